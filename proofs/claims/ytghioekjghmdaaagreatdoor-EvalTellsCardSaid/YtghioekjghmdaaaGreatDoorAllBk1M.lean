/- Own work. -/
import Derived.Laws.IdiomStrings
import Derived.Test.YtghioekjghmdaaaGreatDoorAllRefT7M
set_option linter.unusedSimpArgs false
set_option linter.unusedVariables false
set_option maxHeartbeats 4000000
set_option maxRecDepth 100000
namespace Go.Proofs.YtghioekjghmdaaaGreatDoor
open Go.RowKit
theorem pow_bound{b n d D L:Nat}(hb:1<b)(hd:0<d)(h:b ^ n*d≤D)(hD:D<10 ^ L):n<4*L:=by
 have h1:2 ^ n≤b ^ n:=Nat.pow_le_pow_left hb n;have h2:d*2 ^ n≤D:=by
  refine Nat.le_trans ?_ h;rw[Nat.mul_comm d];exact Nat.mul_le_mul_right _ h1
 exact two_bound hd h2 hD
theorem on_bound{b e d L:Nat}(hb:1<b)(hd:0<d)(hD:d<10 ^ L):(onS b e d).2≤e*(4*L):=by
 obtain⟨h1,_,h3⟩:=on_spec (e:=e) hb hd;have h4:=pow_bound (n:=(strip b d).1) hb h3 (Nat.le_of_eq h1.symm) hD;exact Nat.mul_le_mul_left e (Nat.le_of_lt h4)
theorem div_step{d b t D:Nat}(hb:1<b)(h:d*2 ^ t≤D):d / b*2 ^ (t+1)≤D:=by
 have h1:d / b≤d / 2:=Nat.div_le_div_left hb (by decide);exact Nat.le_trans (Nat.mul_le_mul_right _ h1) (half_step h)
theorem n_div{d r b:Nat}(hl:(dig d).length≤100000)(hbl:(dig b).length≤100)(h0:0<b)(hr:d % b=r)(w:World) :
  Calls Tryz.prog 182 #[.string ⟨(dig d).toArray⟩,.string ⟨(dig b).toArray⟩] w (GiveSSB w (dig (d / b),dig r,true)):=by
 have c:=div_any ⟨(dig d).toArray⟩ ⟨(dig b).toArray⟩ w (by rw[size_dig];omega) (by rw[size_dig];omega);have e:divS (⟨(dig d).toArray⟩:ByteArray).data.toList (⟨(dig b).toArray⟩:ByteArray).data.toList=(dig (d / b),dig r,true):=by
  show divS (dig d) (dig b)=_;unfold divS;rw[isNat_dig,isNat_dig,valS_dig,valS_dig,decide_eq_true h0,hr];rfl
 rw[e]at c;exact c
theorem on_acc{b e d t D:Nat}(hb:1<b)(hd:0<d)(hr:d % b=0)(h:onS b e D=((onS b e d).1,e*t+(onS b e d).2)):onS b e D=((onS b e (d / b)).1,e*(t+1)+(onS b e (d / b)).2):=by
 rw[h,on_yes hb hd hr];exact Prod.ext rfl (by show e*t+(e+_)=e*(t+1)+_;rw[Nat.mul_succ,Nat.add_assoc])
theorem on_end{b e d t D:Nat}(hr:d % b≠0)(h:onS b e D=((onS b e d).1,e*t+(onS b e d).2)):onS b e D=(d,e*t):=by
 rw[h,on_no hr];rfl
def DivInv(w:World)(D b e:Nat)(a':Act)(w':World):Prop :=
 ∃ (d t:Nat) (q:Int) (u3 u4 u5 u9 u10 u11 u12 u13 u14 u15 u16 u17 u18 u19 u20 u21 u22 u23 u24 u25 u26:Value),a'={ tmps:=#[.string ⟨(dig d).toArray⟩,.string ⟨(dig b).toArray⟩,.int .i64 (e:Int),u3,u4,u5,.string ⟨#[]⟩,.int .i64 0,.int .i64 q,u9,u10,u11,u12,u13,u14,u15,u16,u17,u18,u19,u20,u21,u22,u23,u24,u25,u26],defers:=[] } ∧
  q=((e*t:Nat):Int)∧Hid (0<d∧(dig d).length≤100000∧d*2 ^ t≤D∧onS b e D=((onS b e d).1,e*t+(onS b e d).2))∧Below w.heap.size w w'
def DivPost(w:World)(D b e:Nat)(ev:Ending)(w':World):Prop:=ev=.returned (.tuple #[.string ⟨(dig (onS b e D).1).toArray⟩,.int .i64 ((onS b e D).2:Int)])∧Below w.heap.size w w'
theorem ret_si{a c:List UInt8}{b d:Int}(h1:a=c)(h2:b=d):Ending.returned (.tuple #[.string ⟨a.toArray⟩,.int .i64 b])=.returned (.tuple #[.string ⟨c.toArray⟩,.int .i64 d]):=by rw[h1,h2]
theorem divided_any(D b e:Nat)(w:World)(hD:0<D)(hl:(dig D).length≤100000)(hb:1<b)(hbl:(dig b).length≤100)(he:e≤100) :
  Calls Tryz.prog 207 #[.string ⟨(dig D).toArray⟩,.string ⟨(dig b).toArray⟩,.int .i64 (e:Int)] w (DivPost w D b e):=by
 have hDb:D<10 ^ (dig D).length:=by have:=valS_lt (dig_all D);rwa[valS_dig]at this
 have HDB:Hid (∀d t:Nat,0<d→d*2 ^ t≤D→e*t≤40000000):=zh fun d t h0 h=>by
  have h1:=two_bound h0 h hDb;have h2:e*t≤100*400000:=Nat.mul_le_mul he (by omega);omega
 have CD:Hid (∀ (d r:Nat),(dig d).length≤100000→d % b=r→∀w,Calls Tryz.prog 182 #[.string ⟨(dig d).toArray⟩,.string ⟨(dig b).toArray⟩] w (GiveSSB w (dig (d / b),dig r,true))):=zh fun d r h1 h2 w=>n_div h1 hbl (by omega) h2 w;have HB:=zh hb;have HD:=zh hD;have HL:=zh hl
 clear hDb hbl he hb hD hl;go_enter Tryz.func207,Tryz.ntmps207
 go_wp2
 refine wp_scope_jumps 0 (DivInv w D b e) (fun a' _=>numOf (a'.tmps.getD 0 undef)) rfl ?_ ?_
 ·have hbw:=Below.refl w.heap.size w;have HG:Hid (0<D∧(dig D).length≤100000∧D*2 ^ 0≤D∧onS b e D=((onS b e D).1,e*0+(onS b e D).2)):=zh ⟨HD.out,HL.out,by omega,by rw[Nat.mul_zero,Nat.zero_add]⟩;go_wp2_with fail
  go_step3
  by_cases hr:D % b=0
  ·have c:=CD.out D 0 HG.out.2.1 hr;have e0:=dig_nil;have hg:0<D / b:=Nat.div_pos (Nat.le_of_dvd HG.out.1 (Nat.dvd_of_mod_eq_zero hr)) (by have:=HB.out;omega);have hs:=div_step (t:=0) HB.out HG.out.2.2.1;have HN:Hid (0<D / b∧(dig (D / b)).length≤100000∧D / b*2 ^ (0+1)≤D∧onS b e D=((onS b e (D / b)).1,e*(0+1)+(onS b e (D / b)).2)):=zh ⟨hg,Nat.le_trans (dig_len_le (Nat.div_le_self D b)) HG.out.2.1,hs,on_acc HB.out HG.out.1 hr HG.out.2.2.2⟩;have hbd:=HDB.out _ _ hg hs;have hbe:e*(0+1)=e*0+e:=Nat.mul_succ e 0;have C:=zh c;clear c hg hs;go_wp2_with fail;refine(C.out _).mono ?_;rintro ev w3 ⟨rfl,b3⟩;go_wp2_with fail
   go_step3
   refine⟨rfl,D / b,0+1,_,_,_,_,_,_,_,_,_,_,_,_,_,_,_,_,_,_,_,_,_,_,rfl,?_,HN,hbw.trans (b3.mono hbw.size)⟩
   ·rw[hbe,Int.natCast_add,Int.natCast_mul];try simp
  ·have c:=CD.out D _ HG.out.2.1 rfl;have e0:=dig_ne48 hr;have e1:=dig_neB hr;have hv:=on_end hr HG.out.2.2.2;have hbd:=HDB.out _ _ HG.out.1 HG.out.2.2.1;have C:=zh c;have HV:=zh hv;clear c hr hv;go_wp2_with fail;refine(C.out _).mono ?_;rintro ev w3 ⟨rfl,b3⟩;go_wp2_with fail;simp only[Exit.jump]
   go_ret2
   exact⟨ret_si (by rw[HV.out]) (by rw[HV.out];simp),hbw.trans (b3.mono hbw.size)⟩
 ·rintro a' w2 ⟨d,t,q,u3,u4,u5,u9,u10,u11,u12,u13,u14,u15,u16,u17,u18,u19,u20,u21,u22,u23,u24,u25,u26,rfl,rfl,HG,hbw⟩;by_cases hr:d % b=0
  ·have c:=CD.out d 0 HG.out.2.1 hr;have e0:=dig_nil;have hg:0<d / b:=Nat.div_pos (Nat.le_of_dvd HG.out.1 (Nat.dvd_of_mod_eq_zero hr)) (by have:=HB.out;omega);have hs:=div_step (t:=t) HB.out HG.out.2.2.1;have HN:Hid (0<d / b∧(dig (d / b)).length≤100000∧d / b*2 ^ (t+1)≤D∧onS b e D=((onS b e (d / b)).1,e*(t+1)+(onS b e (d / b)).2)):=zh ⟨hg,Nat.le_trans (dig_len_le (Nat.div_le_self d b)) HG.out.2.1,hs,on_acc HB.out HG.out.1 hr HG.out.2.2.2⟩;have hbd:=HDB.out _ _ hg hs;have hbe:e*(t+1)=e*t+e:=Nat.mul_succ e t;have C:=zh c;clear c hg hs;go_wp2_with fail;refine(C.out _).mono ?_;rintro ev w3 ⟨rfl,b3⟩;go_wp2_with fail
   go_step3
   refine⟨rfl,⟨d / b,t+1,_,_,_,_,_,_,_,_,_,_,_,_,_,_,_,_,_,_,_,_,_,_,rfl,?_,HN,hbw.trans (b3.mono hbw.size)⟩,?_⟩
   ·rw[hbe,Int.natCast_add,Int.natCast_mul]
   ·show numOf (.string ⟨(dig (d / b)).toArray⟩)<numOf (.string ⟨(dig d).toArray⟩);rw[numOf_dig,numOf_dig];exact Nat.div_lt_self HG.out.1 HB.out
  ·have c:=CD.out d _ HG.out.2.1 rfl;have e0:=dig_ne48 hr;have e1:=dig_neB hr;have hv:=on_end hr HG.out.2.2.2;have hbd:=HDB.out _ _ HG.out.1 HG.out.2.2.1;have C:=zh c;have HV:=zh hv;clear c hr hv;go_wp2_with fail;refine(C.out _).mono ?_;rintro ev w3 ⟨rfl,b3⟩;go_wp2_with fail;simp only[Exit.jump]
   go_ret2
   exact⟨ret_si (by rw[HV.out]) (by rw[HV.out];simp),hbw.trans (b3.mono hbw.size)⟩
def powT:Nat→Nat×Nat
 | 0=>(536870912,29)
 | 1=>(2,1)
 | 2=>(244140625,12)
 | _=>(5,1)
def stT(d:Nat):Nat→Nat×Nat
 | 0=>onS 10 1 d
 | k+1=>((onS (powT k).1 (powT k).2 (stT d k).1).1,(stT d k).2+(onS (powT k).1 (powT k).2 (stT d k).1).2)
theorem stT_end(d:Nat):stT d 4=(leftS d,cntS d):=rfl
theorem powT_ok(k:Nat):1<(powT k).1∧(powT k).2≤29:=by
 unfold powT;split<;>decide
theorem stT_ok{d:Nat}(hd:0<d)(hl:(dig d).length≤100000)(k:Nat):0<(stT d k).1∧(stT d k).1≤d∧(stT d k).2≤(k+1)*12000000:=by
 obtain⟨L,hL,hD⟩:∃L,L≤100000∧d<10 ^ L:=⟨(dig d).length,hl,by have:=valS_lt (dig_all d);rwa[valS_dig]at this⟩
 induction k with
 | zero =>
  obtain⟨_,_,h3⟩:=on_spec (e:=1) (show 1<10 by decide) hd;have h4:=on_bound (e:=1) (show 1<10 by decide) hd hD;refine⟨h3,on_le (by decide) hd,?_⟩;show (onS 10 1 d).2≤_;omega
 | succ k ih =>
  obtain⟨i1,i2,i3⟩:=ih;obtain⟨p1,p2⟩:=powT_ok k;obtain⟨_,_,h3⟩:=on_spec (e:=(powT k).2) p1 i1;have h4:=on_bound (e:=(powT k).2) p1 i1 (Nat.lt_of_le_of_lt i2 hD);have h5:(powT k).2*(4*L)≤29*(4*L):=Nat.mul_le_mul_right _ p2;refine⟨h3,Nat.le_trans (on_le (e:=(powT k).2) p1 i1) i2,?_⟩;show (stT d k).2+(onS (powT k).1 (powT k).2 (stT d k).1).2≤_;omega
theorem dig_pow0:dig 536870912=[53,51,54,56,55,48,57,49,50]:=dig_valS (l:=[53,51,54,56,55,48,57,49,50]) (by decide)
theorem dig_pow1:dig 2=[50]:=dig_valS (l:=[50]) (by decide)
theorem dig_pow2:dig 244140625=[50,52,52,49,52,48,54,50,53]:=dig_valS (l:=[50,52,52,49,52,48,54,50,53]) (by decide)
theorem dig_pow3:dig 5=[53]:=dig_valS (l:=[53]) (by decide)
theorem divided_0(d:Nat)(w:World)(hd:0<d)(hl:(dig d).length≤100000) :
  Calls Tryz.prog 207 #[.string ⟨(dig d).toArray⟩,.string ⟨#[53,51,54,56,55,48,57,49,50]⟩,.int .i64 29] w (DivPost w d 536870912 29):=by
 have c:=divided_any d 536870912 29 w hd hl (by decide) (by rw[dig_pow0];decide) (by decide);rw[dig_pow0]at c;exact c
theorem divided_1(d:Nat)(w:World)(hd:0<d)(hl:(dig d).length≤100000) :
  Calls Tryz.prog 207 #[.string ⟨(dig d).toArray⟩,.string ⟨#[50]⟩,.int .i64 1] w (DivPost w d 2 1):=by
 have c:=divided_any d 2 1 w hd hl (by decide) (by rw[dig_pow1];decide) (by decide);rw[dig_pow1]at c;exact c
theorem divided_2(d:Nat)(w:World)(hd:0<d)(hl:(dig d).length≤100000) :
  Calls Tryz.prog 207 #[.string ⟨(dig d).toArray⟩,.string ⟨#[50,52,52,49,52,48,54,50,53]⟩,.int .i64 12] w (DivPost w d 244140625 12):=by
 have c:=divided_any d 244140625 12 w hd hl (by decide) (by rw[dig_pow2];decide) (by decide);rw[dig_pow2]at c;exact c
theorem divided_3(d:Nat)(w:World)(hd:0<d)(hl:(dig d).length≤100000) :
  Calls Tryz.prog 207 #[.string ⟨(dig d).toArray⟩,.string ⟨#[53]⟩,.int .i64 1] w (DivPost w d 5 1):=by
 have c:=divided_any d 5 1 w hd hl (by decide) (by rw[dig_pow3];decide) (by decide);rw[dig_pow3]at c;exact c
theorem idx_0(w:World):(Instr.index 193 (.agg #[.string ⟨#[53,51,54,56,55,48,57,49,50]⟩,.int .i64 29,.string ⟨#[50]⟩,.int .i64 1,.string ⟨#[50,52,52,49,52,48,54,50,53]⟩,.int .i64 12,.string ⟨#[53]⟩,.int .i64 1]) (.int .i64 0)).run Tryz.prog w=.ok (.agg #[.string ⟨#[53,51,54,56,55,48,57,49,50]⟩,.int .i64 29]) w:=by kernel_rfl
theorem idx_1(w:World):(Instr.index 193 (.agg #[.string ⟨#[53,51,54,56,55,48,57,49,50]⟩,.int .i64 29,.string ⟨#[50]⟩,.int .i64 1,.string ⟨#[50,52,52,49,52,48,54,50,53]⟩,.int .i64 12,.string ⟨#[53]⟩,.int .i64 1]) (.int .i64 1)).run Tryz.prog w=.ok (.agg #[.string ⟨#[50]⟩,.int .i64 1]) w:=by kernel_rfl
theorem idx_2(w:World):(Instr.index 193 (.agg #[.string ⟨#[53,51,54,56,55,48,57,49,50]⟩,.int .i64 29,.string ⟨#[50]⟩,.int .i64 1,.string ⟨#[50,52,52,49,52,48,54,50,53]⟩,.int .i64 12,.string ⟨#[53]⟩,.int .i64 1]) (.int .i64 2)).run Tryz.prog w=.ok (.agg #[.string ⟨#[50,52,52,49,52,48,54,50,53]⟩,.int .i64 12]) w:=by kernel_rfl
theorem idx_3(w:World):(Instr.index 193 (.agg #[.string ⟨#[53,51,54,56,55,48,57,49,50]⟩,.int .i64 29,.string ⟨#[50]⟩,.int .i64 1,.string ⟨#[50,52,52,49,52,48,54,50,53]⟩,.int .i64 12,.string ⟨#[53]⟩,.int .i64 1]) (.int .i64 3)).run Tryz.prog w=.ok (.agg #[.string ⟨#[53]⟩,.int .i64 1]) w:=by kernel_rfl
theorem places0_any(D:Nat)(w:World)(hd:0<D)(hl:(dig D).length≤100000)(hg:GoodD w) :
  Calls Tryz.prog 181 #[.string ⟨(dig D).toArray⟩] w (GiveIB w (plR (plc D))):=by
 obtain⟨t1,t2⟩:=trim_tens hd;have c0:∀w,Calls Tryz.prog 206 #[.string ⟨(dig D).toArray⟩,.string ⟨#[48]⟩] w fun e w'=>e=.returned (.string ⟨(dig (stT D 0).1).toArray⟩)∧w'=w:=fun w=>by
  have c:=Tryz.strings_TrimRight_one ⟨(dig D).toArray⟩ 48 (by decide) w (by rw[size_of];omega);have e:Lib.trimRightB (⟨(dig D).toArray⟩:ByteArray).data.toList 48=dig (stT D 0).1:=t1;rw[e]at c;exact c
 have hcnt:((dig D).length:Int)-((dig (stT D 0).1).length:Int)=((stT D 0).2:Int):=by
  rw[t2];show (((dig (stT D 0).1).length+(stT D 0).2:Nat):Int) - _=_;omega
 have hi:∀k,0<(stT D k).1∧(dig (stT D k).1).length≤100000∧(stT D k).2≤(k+1)*12000000:=fun k=>by
  obtain⟨h1,h2,h3⟩:=stT_ok hd hl k;exact⟨h1,Nat.le_trans (dig_len_le h2) hl,h3⟩
 have hw:=walk_is hd;have hi0:=(hi 0).2.1;have C0:=zh c0;have HI:=zh hi;have HW:=zh hw;have HE:=zh (stT_end D)
 obtain⟨_,p0,p1,p2,p3,p4,p5,p6,p7,_,_⟩:=hg;clear c0 hi hw t1 t2;go_enter Tryz.func181,Tryz.ntmps181;go_wp2_with fail;refine(C0.out _).mono ?_;rintro e w1 ⟨rfl,rfl⟩;go_wp2_with fail;clear p0 p1 p2 p3 p4 p5 p6 p7
 go_loopw [4,5,17] (fun a b i V=>∃k:Nat,k≤4∧a=.string ⟨(dig (stT D k).1).toArray⟩∧b=.int .i64 ((stT D k).2:Int)∧i=.int .i64 k∧Below w1.heap.size w1 V) (fun _ _ i _=>4-(intOf i).toNat)
 case atStart=>exact⟨0,Nat.zero_le _,rfl,(by first|rfl|(rw[hcnt])),rfl,Below.refl _ _⟩
 case round =>
  obtain⟨k,hk,rfl,rfl,rfl,hbw⟩:=hrel;clear hcnt;by_cases h4:k<4
  ·have hk':k=0∨k=1∨k=2∨k=3:=by omega
   clear hk h4;rcases hk' with rfl|rfl|rfl|rfl
   ·obtain⟨i1,i2,i3⟩:=HI.out 0;have i4:(stT D 0).2+(onS 536870912 29 (stT D 0).1).2≤24000000:=(HI.out 1).2.2;have c:=fun w=>divided_0 (stT D 0).1 w i1 i2;have C:=zh c;clear c i1 i2;go_wp2_with fail;rw[idx_0];go_wp2_with fail;refine(C.out _).mono ?_;rintro e w3 ⟨rfl,b3⟩;go_wp2_with fail;go_roundw
    case rel=>exact⟨1,by decide,rfl,(by first|rfl|go_num),rfl,(Below.alloc hbw hbw.size _).trans (b3.mono (Below.alloc hbw hbw.size _).size)⟩
    case measure=>simp[intOf]
   ·obtain⟨i1,i2,i3⟩:=HI.out 1;have i4:(stT D 1).2+(onS 2 1 (stT D 1).1).2≤36000000:=(HI.out 2).2.2;have c:=fun w=>divided_1 (stT D 1).1 w i1 i2;have C:=zh c;clear c i1 i2;go_wp2_with fail;rw[idx_1];go_wp2_with fail;refine(C.out _).mono ?_;rintro e w3 ⟨rfl,b3⟩;go_wp2_with fail;go_roundw
    case rel=>exact⟨2,by decide,rfl,(by first|rfl|go_num),rfl,(Below.alloc hbw hbw.size _).trans (b3.mono (Below.alloc hbw hbw.size _).size)⟩
    case measure=>simp[intOf]
   ·obtain⟨i1,i2,i3⟩:=HI.out 2;have i4:(stT D 2).2+(onS 244140625 12 (stT D 2).1).2≤48000000:=(HI.out 3).2.2;have c:=fun w=>divided_2 (stT D 2).1 w i1 i2;have C:=zh c;clear c i1 i2;go_wp2_with fail;rw[idx_2];go_wp2_with fail;refine(C.out _).mono ?_;rintro e w3 ⟨rfl,b3⟩;go_wp2_with fail;go_roundw
    case rel=>exact⟨3,by decide,rfl,(by first|rfl|go_num),rfl,(Below.alloc hbw hbw.size _).trans (b3.mono (Below.alloc hbw hbw.size _).size)⟩
    case measure=>simp[intOf]
   ·obtain⟨i1,i2,i3⟩:=HI.out 3;have i4:(stT D 3).2+(onS 5 1 (stT D 3).1).2≤60000000:=(HI.out 4).2.2;have c:=fun w=>divided_3 (stT D 3).1 w i1 i2;have C:=zh c;clear c i1 i2;go_wp2_with fail;rw[idx_3];go_wp2_with fail;refine(C.out _).mono ?_;rintro e w3 ⟨rfl,b3⟩;go_wp2_with fail;go_roundw
    case rel=>exact⟨4,by decide,rfl,(by first|rfl|go_num),rfl,(Below.alloc hbw hbw.size _).trans (b3.mono (Below.alloc hbw hbw.size _).size)⟩
    case measure=>simp[intOf]
  ·obtain rfl:k=4:=by omega
   clear hk h4;have i3:=(HI.out 4).2.2;by_cases h1:leftS D=1
   ·have hr:plR (plc D)=(((stT D 4).2:Int),true):=by rw[HW.out,if_pos h1,HE.out];rfl
    have e1:dig (stT D 4).1=[49]:=by rw[HE.out];show dig (leftS D)=_;rw[h1];exact dig_one
    have HR:=zh hr;clear hr h1;go_wp2_with fail
    go_ret2
    exact⟨by rw[HR.out]<;>rfl,hbw⟩
   ·have hr:plR (plc D)=(0,false):=by rw[HW.out,if_neg h1];rfl
    have e1:dig (stT D 4).1≠[49]:=by rw[HE.out];exact dig_ne49 h1
    have e2:(dig (stT D 4).1 == [49])=false:=beq_false_of_ne e1;have HR:=zh hr;clear hr h1;go_wp2_with fail
    go_ret2
    exact⟨by rw[HR.out]<;>rfl,hbw⟩
end Go.Proofs.YtghioekjghmdaaaGreatDoor
set_option maxHeartbeats 2000000
set_option maxRecDepth 100000
namespace Go.Proofs.YtghioekjghmdaaaGreatDoor
open Go.RowKit
theorem places_any(n d:ByteArray)(w:World)(hn:n.size≤100000)(hd:d.size≤100000)(hg:GoodD w) :
  Calls Tryz.prog 157 #[.agg #[.string n,.string d]] w (GiveIB w (plS (n.data.toList,d.data.toList))):=by
 have cm:=fun w=>qmay_any n d w hn hd
 cases h:isR (n.data.toList,d.data.toList) with
 | false =>
  rw[h]at cm;rw[plS_no h];clear h hn hd hg;have CM:=zh cm;clear cm;go_enter Tryz.func157,Tryz.ntmps157;go_wp2_with fail;obtain⟨W,hW,BW,sW,k0,k1⟩:=box1 w (.string n) (.string d) 28;rw[hW];clear hW;have b0:=Below.refl W.heap.size W;go_wp2_with fail;refine(CM.out _).mono ?_;rintro e w1 ⟨rfl,b⟩;have b1:=Below.more b0 b;clear b;go_wp2_with fail
  go_ret2
  exact⟨rfl,Below.more BW b1⟩
 | true =>
  rw[h]at cm;rw[plS_yes h];obtain⟨_,hN,hz,_⟩:=isR_parts h;have hN:isNat d.data.toList=true:=hN;have hz:valS d.data.toList≠0:=hz;show Calls _ _ _ _ (GiveIB w (plR (plc (valS d.data.toList))));have hl:=dig_len hN;have hsd:=str_dig hN;generalize valS d.data.toList=D at *;subst hsd;have cp:=fun w hg=>places0_any D w (by omega) (by rw[hl];exact hd) hg;have CM:=zh cm;have CP:=zh cp;have HG:=zh hg
  clear cm cp hg hl h hN hz hn hd;go_enter Tryz.func157,Tryz.ntmps157;go_wp2_with fail;obtain⟨W,hW,BW,sW,k0,k1⟩:=box1 w (.string n) (.string ⟨(dig D).toArray⟩) 28;rw[hW];clear hW;have b0:=Below.refl W.heap.size W;go_wp2_with fail;refine(CM.out _).mono ?_;rintro e w1 ⟨rfl,b⟩;have b1:=Below.more b0 b;clear b;go_wp2_with fail;refine(CP.out _ (HG.out.below (Below.more BW b1))).mono ?_;rintro e w2 ⟨rfl,b⟩;have b2:=Below.more b1 b;clear b;go_wp2_with fail
  go_ret2
  exact⟨rfl,Below.more BW b2⟩
end Go.Proofs.YtghioekjghmdaaaGreatDoor
namespace Go.Proofs.YtghioekjghmdaaaGreatDoor
open Go.RowKit
theorem un_cut(l:List UInt8):(Lib.trimPrefix l [45],Lib.hasPrefix l [45])=((unD l).2,(unD l).1):=by
 unfold unD;by_cases h:l.head?=some 45
 ·obtain⟨r,rfl⟩:=minus_of h;rw[hp_yes,tp_yes,if_pos h];rfl
 ·rw[hp_no h,tp_no h,if_neg h]
theorem cutP_any(s:ByteArray)(w:World){x:List UInt8}{b:Bool}(h:unD s.data.toList=(b,x)) :
  Calls Tryz.prog 180 #[.string s,.string ⟨#[45]⟩] w fun e w'=>e=.returned (.tuple #[.string ⟨x.toArray⟩,.bool b])∧w=w':=by
 have c:=Tryz.strings_CutPrefix s ⟨#[45]⟩ w;have e:=un_cut s.data.toList;rw[h]at e;have e1:Lib.trimPrefix s.data.toList (⟨#[45]⟩:ByteArray).data.toList=x:=congrArg Prod.fst e;have e2:Lib.hasPrefix s.data.toList (⟨#[45]⟩:ByteArray).data.toList=b:=congrArg Prod.snd e;rw[e1,e2]at c;exact c.mono fun _ _ ⟨h1,h2⟩=>⟨h1,h2.symm⟩
end Go.Proofs.YtghioekjghmdaaaGreatDoor
set_option maxHeartbeats 4000000
set_option maxRecDepth 100000
namespace Go.Proofs.YtghioekjghmdaaaGreatDoor
open Go.RowKit
theorem print_no(n d:ByteArray)(w:World)(hn:n.size≤4000)(hd:d.size≤4000)(h:isR (n.data.toList,d.data.toList)=false) :
  Calls Tryz.prog 158 #[.agg #[.string n,.string d]] w (GiveS w (prS (n.data.toList,d.data.toList))):=by
 have cm:=fun w=>qmay_any n d w (by omega) (by omega);rw[h]at cm;rw[prS_no h];clear h hn hd;have CM:=zh cm;clear cm;go_enter Tryz.func158,Tryz.ntmps158;go_wp2_with fail;obtain⟨W,hW,BW,sW,k0,k1⟩:=box1 w (.string n) (.string d) 28;rw[hW];clear hW;have b0:=Below.refl W.heap.size W;go_wp2_with fail;refine(CM.out _).mono ?_;rintro e w1 ⟨rfl,b⟩;have b1:=Below.more b0 b;clear b;go_wp2_with fail;go_ret;exact⟨rfl,Below.more BW b1⟩
theorem den_places{n d:ByteArray}(h:isR (n.data.toList,d.data.toList)=true)(hd:d.size≤4000)(w:World)(hg:GoodD w) :
  Calls Tryz.prog 181 #[.string d] w (GiveIB w (plR (plc (valR (n.data.toList,d.data.toList)).den))):=by
 obtain⟨_,hN,hz,_⟩:=isR_parts h;have hN:isNat d.data.toList=true:=hN;have hz:valS d.data.toList≠0:=hz;have c:=places0_any (valS d.data.toList) w (by omega) (by rw[dig_len hN];omega) hg;rw[←str_dig hN]at c;rw[valR_den h];exact c
theorem print_none(n d:ByteArray)(w:World)(hn:n.size≤4000)(hd:d.size≤4000)(hg:GoodD w)(h:isR (n.data.toList,d.data.toList)=true)(hp:plc (valR (n.data.toList,d.data.toList)).den=none) :
  Calls Tryz.prog 158 #[.agg #[.string n,.string d]] w (GiveS w (prS (n.data.toList,d.data.toList))):=by
 have cm:=fun w=>qmay_any n d w (by omega) (by omega);have cp:=fun w hg=>den_places h hd w hg;rw[h]at cm;rw[hp]at cp;have hr:n++(⟨#[47]⟩:ByteArray)++d=⟨(prS (n.data.toList,d.data.toList)).toArray⟩:=bytes_eq (by
  rw[ba_append,ba_append,prS_yes h,prD_none hp,← (isR_den h).1,← (isR_den h).2,List.append_assoc]
  rfl)
 generalize prS (n.data.toList,d.data.toList)=R at *;clear h hp;have HG:=zh hg;have CM:=zh cm;have CP:=zh cp;have HR:=zh hr;clear cm cp hr hg;go_enter Tryz.func158,Tryz.ntmps158;go_wp2_with fail;obtain⟨W,hW,BW,sW,k0,k1⟩:=box1 w (.string n) (.string d) 28;rw[hW];clear hW;have b0:=Below.refl W.heap.size W;go_wp2_with fail;refine(CM.out _).mono ?_;rintro e w1 ⟨rfl,b⟩;have b1:=Below.more b0 b;clear b;go_wp2_with fail;refine(CP.out _ (HG.out.below (Below.more BW b1))).mono ?_;rintro e w2 ⟨rfl,b⟩;have b2:=Below.more b1 b;clear b;go_wp2_with fail;go_ret;exact⟨ret_str HR.out,Below.more BW b2⟩
theorem un_wd(z:Int):unD (wd z)=(decide (z<0),dig z.natAbs):=by
 unfold wd;by_cases h:z<0
 ·rw[if_pos h,decide_eq_true h];rfl
 ·rw[if_neg h,decide_eq_false h];exact un_digs (dig_all _)
theorem body_len{k:Nat}{l:List UInt8}:(bodyD k l).length≤l.length+k+2:=by
 unfold bodyD;split
 ·omega
 ·unfold ptD padD;simp only[List.length_append,List.length_cons,List.length_take,List.length_drop,List.length_replicate];omega
theorem print_p(n d:ByteArray)(w:World){k:Nat}{A z q r:ByteArray}{R:List UInt8}(hg:Hid (GoodD w))(za:A.size≤4000)(zz:z.size≤20000)(zq:R.length≤60000)
  (CM:Hid (∀w,Calls Tryz.prog 90 #[.agg #[.string n,.string d]] w (GiveB w true)))
  (CP:Hid (∀w,GoodD w→Calls Tryz.prog 181 #[.string d] w (GiveIB w ((k:Int),true))))
  (CC:Hid (∀w,Calls Tryz.prog 180 #[.string n,.string ⟨#[45]⟩] w fun e w'=>e=.returned (.tuple #[.string A,.bool false])∧w=w'))
  (CZ:Hid (∀w,Calls Tryz.prog 183 #[.string ⟨#[48]⟩,.int .i64 (k:Int)] w fun e w'=>e=.returned (.string z)∧Below w.heap.size w w'))
  (CD:Hid (∀w,Calls Tryz.prog 182 #[.string (A++z),.string d] w fun e w'=>e=.returned (.tuple #[.string q,.string r,.bool true])∧Below w.heap.size w w'))
  (CQ:Hid (∀w,Calls Tryz.prog 184 #[.string q,.int .i64 (k:Int)] w (GiveS w R))) :
  Calls Tryz.prog 158 #[.agg #[.string n,.string d]] w (GiveS w (R)):=by
 have hx1:¬9223372036854775807<A.size+z.size:=by omega
 go_enter Tryz.func158,Tryz.ntmps158;go_wp2_with fail;obtain⟨W,hW,BW,sW,k0,k1⟩:=box1 w (.string n) (.string d) 28;have hB:=zh (Nat.le_refl W.heap.size);rw[hW];clear hW;have b0:=Below.refl W.heap.size W;go_wp2_with fail;refine(CM.out _).mono ?_;rintro e w1 ⟨rfl,b⟩;have b1:=Below.more b0 b;clear b;go_wp2_with fail;refine(CP.out _ (hg.out.below (Below.more BW b1))).mono ?_;rintro e w2 ⟨rfl,b⟩;have b2:=Below.more b1 b;clear b;go_wp2_with fail;refine(CC.out _).mono ?_;rintro e w' ⟨rfl,rfl⟩;go_wp2_with fail
 first|(go_region_held3 (fun w'=>Below W.heap.size W w')
     (first|(exact b2.drew)|(with_reducible assumption)|(exact Below.alloc (by with_reducible assumption) (Nat.le_trans hB.out (Below.size (by with_reducible assumption))) _)|(exact put2 (by with_reducible assumption) (Nat.le_refl _) _ _)|(exact put2 (by with_reducible assumption) hB.out _ _)|(exact put2 (by with_reducible assumption) (Nat.le_trans hB.out (Below.size (by with_reducible assumption))) _ _))
     (first|(go_at_call 183;(with_reducible refine(held (W:=W) hB.out (CZ.out _) (by assumption)).mono ?_);rintro e w'' ⟨rfl,hb,hw⟩;(first|(have hz:=zc_made0 hb)|(have hz:=zc_made hb)|skip);(try have hz:=Zc.below (by assumption) hb);(try (have z0:=hz.c0;have z1:=hz.c1;have z2:=hz.f0;have z3:=hz.f1)))|(go_at_call 182;(with_reducible refine(held (W:=W) hB.out (CD.out _) (by assumption)).mono ?_);rintro e w'' ⟨rfl,hb,hw⟩;(first|(have hz:=zc_made0 hb)|(have hz:=zc_made hb)|skip);(try have hz:=Zc.below (by assumption) hb);(try (have z0:=hz.c0;have z1:=hz.c1;have z2:=hz.f0;have z3:=hz.f1)))))|fail
 all_goals (go_wp2_with fail)
 all_goals (refine(CQ.out _).mono ?_;rintro e w9 ⟨rfl,b9⟩)
 all_goals (have b3:=Below.more (by with_reducible assumption) b9;clear b9)
 all_goals
  have zR:(⟨R.toArray⟩:ByteArray).size=R.length:=size_of R;have hr:(⟨#[45]⟩:ByteArray)++⟨R.toArray⟩=⟨(45::R).toArray⟩:=bytes_eq (by rw[ba_append];rfl);have HR:=zh hr;clear hr;generalize hq:(⟨R.toArray⟩:ByteArray)=Q at *;have hx2:¬9223372036854775807<1+Q.size:=by omega
  have HQ:=zh hq;clear hq;go_wp2_with fail;go_ret;exact⟨ret_str HQ.out.symm,Below.more BW b3⟩
theorem print_m(n d:ByteArray)(w:World){k:Nat}{A z q r:ByteArray}{R:List UInt8}(hg:Hid (GoodD w))(za:A.size≤4000)(zz:z.size≤20000)(zq:R.length≤60000)
  (CM:Hid (∀w,Calls Tryz.prog 90 #[.agg #[.string n,.string d]] w (GiveB w true)))
  (CP:Hid (∀w,GoodD w→Calls Tryz.prog 181 #[.string d] w (GiveIB w ((k:Int),true))))
  (CC:Hid (∀w,Calls Tryz.prog 180 #[.string n,.string ⟨#[45]⟩] w fun e w'=>e=.returned (.tuple #[.string A,.bool true])∧w=w'))
  (CZ:Hid (∀w,Calls Tryz.prog 183 #[.string ⟨#[48]⟩,.int .i64 (k:Int)] w fun e w'=>e=.returned (.string z)∧Below w.heap.size w w'))
  (CD:Hid (∀w,Calls Tryz.prog 182 #[.string (A++z),.string d] w fun e w'=>e=.returned (.tuple #[.string q,.string r,.bool true])∧Below w.heap.size w w'))
  (CQ:Hid (∀w,Calls Tryz.prog 184 #[.string q,.int .i64 (k:Int)] w (GiveS w R))) :
  Calls Tryz.prog 158 #[.agg #[.string n,.string d]] w (GiveS w (45::R)):=by
 have hx1:¬9223372036854775807<A.size+z.size:=by omega
 go_enter Tryz.func158,Tryz.ntmps158;go_wp2_with fail;obtain⟨W,hW,BW,sW,k0,k1⟩:=box1 w (.string n) (.string d) 28;have hB:=zh (Nat.le_refl W.heap.size);rw[hW];clear hW;have b0:=Below.refl W.heap.size W;go_wp2_with fail;refine(CM.out _).mono ?_;rintro e w1 ⟨rfl,b⟩;have b1:=Below.more b0 b;clear b;go_wp2_with fail;refine(CP.out _ (hg.out.below (Below.more BW b1))).mono ?_;rintro e w2 ⟨rfl,b⟩;have b2:=Below.more b1 b;clear b;go_wp2_with fail;refine(CC.out _).mono ?_;rintro e w' ⟨rfl,rfl⟩;go_wp2_with fail
 first|(go_region_held3 (fun w'=>Below W.heap.size W w')
     (first|(exact b2.drew)|(with_reducible assumption)|(exact Below.alloc (by with_reducible assumption) (Nat.le_trans hB.out (Below.size (by with_reducible assumption))) _)|(exact put2 (by with_reducible assumption) (Nat.le_refl _) _ _)|(exact put2 (by with_reducible assumption) hB.out _ _)|(exact put2 (by with_reducible assumption) (Nat.le_trans hB.out (Below.size (by with_reducible assumption))) _ _))
     (first|(go_at_call 183;(with_reducible refine(held (W:=W) hB.out (CZ.out _) (by assumption)).mono ?_);rintro e w'' ⟨rfl,hb,hw⟩;(first|(have hz:=zc_made0 hb)|(have hz:=zc_made hb)|skip);(try have hz:=Zc.below (by assumption) hb);(try (have z0:=hz.c0;have z1:=hz.c1;have z2:=hz.f0;have z3:=hz.f1)))|(go_at_call 182;(with_reducible refine(held (W:=W) hB.out (CD.out _) (by assumption)).mono ?_);rintro e w'' ⟨rfl,hb,hw⟩;(first|(have hz:=zc_made0 hb)|(have hz:=zc_made hb)|skip);(try have hz:=Zc.below (by assumption) hb);(try (have z0:=hz.c0;have z1:=hz.c1;have z2:=hz.f0;have z3:=hz.f1)))))|fail
 all_goals (go_wp2_with fail)
 all_goals (refine(CQ.out _).mono ?_;rintro e w9 ⟨rfl,b9⟩)
 all_goals (have b3:=Below.more (by with_reducible assumption) b9;clear b9)
 all_goals
  have zR:(⟨R.toArray⟩:ByteArray).size=R.length:=size_of R;have hr:(⟨#[45]⟩:ByteArray)++⟨R.toArray⟩=⟨(45::R).toArray⟩:=bytes_eq (by rw[ba_append];rfl);have HR:=zh hr;clear hr;generalize hq:(⟨R.toArray⟩:ByteArray)=Q at *;have hx2:¬9223372036854775807<1+Q.size:=by omega
  have HQ:=zh hq;clear hq;go_wp2_with fail;go_ret;exact⟨ret_str HR.out,Below.more BW b3⟩
theorem print_some(n d:ByteArray)(w:World)(hn:n.size≤4000)(hd:d.size≤4000)(hg:GoodD w)(h:isR (n.data.toList,d.data.toList)=true){k:Nat}(hp:plc (valR (n.data.toList,d.data.toList)).den=some k) :
  Calls Tryz.prog 158 #[.agg #[.string n,.string d]] w (GiveS w (prS (n.data.toList,d.data.toList))):=by
 have cm:=fun w=>qmay_any n d w (by omega) (by omega);rw[h]at cm;have cp:=fun w hg=>den_places h hd w hg;rw[hp]at cp;have cp:∀w,GoodD w→Calls Tryz.prog 181 #[.string d] w (GiveIB w ((k:Int),true)):=cp;have hden:(dig (valR (n.data.toList,d.data.toList)).den).length≤4000:=by rw[←(isR_den h).1];exact hd
 have hnum:(wd (valR (n.data.toList,d.data.toList)).num).length≤4000:=by rw[←(isR_den h).2];exact hn
 have hkb:k<16000:=by
  have h1:=plc_bound (Nat.pos_of_ne_zero (valR (n.data.toList,d.data.toList)).den_nz) hp (by have:=valS_lt (dig_all (valR (n.data.toList,d.data.toList)).den);rw[valS_dig]at this;exact this);omega
 have hu:unD n.data.toList=(decide ((valR (n.data.toList,d.data.toList)).num<0),dig (valR (n.data.toList,d.data.toList)).num.natAbs):=by
  have e:=(isR_den h).2;have e:n.data.toList=wd (valR (n.data.toList,d.data.toList)).num:=e
  conv=>lhs;rw[e]
  exact un_wd _
 have cc:=fun w=>cutP_any n w hu;have hA:=nat_wd_len (valR (n.data.toList,d.data.toList)).num;have ed:d=⟨(dig (valR (n.data.toList,d.data.toList)).den).toArray⟩:=bytes_eq (isR_den h).1;have et:=num_tens hp;have eq:=tens_div hp;rw[prS_yes h,prD_body hp];have hq0:(valR (n.data.toList,d.data.toList)).den≠0:=(valR (n.data.toList,d.data.toList)).den_nz;have hql:(dig ((valR (n.data.toList,d.data.toList)).num.natAbs*(10 ^ k / (valR (n.data.toList,d.data.toList)).den))).length≤25000:=by
  rcases Nat.eq_zero_or_pos k with h0|h0
  ·subst h0;have e1:(valR (n.data.toList,d.data.toList)).den=1:=Nat.dvd_one.1 (by have:=den_divides hp;rwa[Nat.pow_zero]at this);rw[e1,Nat.pow_zero,Nat.div_one,Nat.mul_one];omega
  ·have h1:=prod_len (a:=(valR (n.data.toList,d.data.toList)).num.natAbs) h0 (Nat.div_le_self (10 ^ k) (valR (n.data.toList,d.data.toList)).den);omega
 generalize (valR (n.data.toList,d.data.toList)).num=N at *;generalize (valR (n.data.toList,d.data.toList)).den=D at *;rw[←eq]at hql ⊢;have cz:∀w,Calls Tryz.prog 183 #[.string ⟨#[48]⟩,.int .i64 (k:Int)] w fun e w'=>e=.returned (.string ⟨(List.replicate k 48).toArray⟩)∧Below w.heap.size w w':=fun w=>repeat_any k w (by omega);have ea:(⟨(dig N.natAbs).toArray⟩:ByteArray)++⟨(List.replicate k 48).toArray⟩=⟨(dig (N.natAbs*10 ^ k)).toArray⟩:=bytes_eq (by rw[ba_append];exact et);have hal:(dig (N.natAbs*10 ^ k)).length≤25000:=by rw[←et,List.length_append,List.length_replicate];omega
 have cd:∀w,Calls Tryz.prog 182 #[.string ((⟨(dig N.natAbs).toArray⟩:ByteArray)++⟨(List.replicate k 48).toArray⟩),.string d] w fun e w'=>e=.returned (.tuple #[.string ⟨(dig (N.natAbs*10 ^ k / D)).toArray⟩,.string ⟨(dig (N.natAbs*10 ^ k % D)).toArray⟩,.bool true])∧Below w.heap.size w w':=fun w=>by
  rw[ea,ed];have c:=div_any ⟨(dig (N.natAbs*10 ^ k)).toArray⟩ ⟨(dig D).toArray⟩ w (by rw[size_of];omega) (by rw[size_of];omega);have e:divS (⟨(dig (N.natAbs*10 ^ k)).toArray⟩:ByteArray).data.toList (⟨(dig D).toArray⟩:ByteArray).data.toList=(dig (N.natAbs*10 ^ k / D),dig (N.natAbs*10 ^ k % D),true):=by
   show divS (dig _) (dig _)=_;unfold divS;rw[isNat_dig,isNat_dig,valS_dig,valS_dig,decide_eq_true (by omega)];rfl
  rw[e]at c;exact c
 have cq:=fun w=>pointed_any ⟨(dig (N.natAbs*10 ^ k / D)).toArray⟩ k w (by rw[size_of];omega) (by omega);have cq:∀w,Calls Tryz.prog 184 #[.string ⟨(dig (N.natAbs*10 ^ k / D)).toArray⟩,.int .i64 (k:Int)] w (GiveS w (bodyD k (dig (N.natAbs*10 ^ k / D)))):=cq;have hbl:=body_len (k:=k) (l:=dig (N.natAbs*10 ^ k / D));have zA:(⟨(dig N.natAbs).toArray⟩:ByteArray).size≤4000:=by rw[size_of];omega
 have zz:(⟨(List.replicate k 48).toArray⟩:ByteArray).size≤20000:=by rw[size_of,List.length_replicate];omega
 clear ea ed et eq hu hal
 cases hs:decide (N<0) with
 | false =>
  rw[hs]at cc;exact print_p n d w (R:=bodyD k (dig (N.natAbs*10 ^ k / D))) (zh hg) zA zz (by omega) (zh cm) (zh cp) (zh cc) (zh cz) (zh cd) (zh cq)
 | true =>
  rw[hs]at cc;exact print_m n d w (R:=bodyD k (dig (N.natAbs*10 ^ k / D))) (zh hg) zA zz (by omega) (zh cm) (zh cp) (zh cc) (zh cz) (zh cd) (zh cq)
theorem print_any(n d:ByteArray)(w:World)(hn:n.size≤4000)(hd:d.size≤4000)(hg:GoodD w) :
  Calls Tryz.prog 158 #[.agg #[.string n,.string d]] w (GiveS w (prS (n.data.toList,d.data.toList))):=by
 cases h:isR (n.data.toList,d.data.toList) with
 | false=>exact print_no n d w hn hd h
 | true=>cases hp:plc (valR (n.data.toList,d.data.toList)).den with
  | none=>exact print_none n d w hn hd hg h hp
  | some k=>exact print_some n d w hn hd hg h hp
end Go.Proofs.YtghioekjghmdaaaGreatDoor
set_option maxHeartbeats 2000000
set_option maxRecDepth 100000
namespace Go.Proofs.YtghioekjghmdaaaGreatDoor
open Go.RowKit
theorem mark_any(s:ByteArray)(w:World):Calls Tryz.prog 113 #[.string s,.string ⟨#[33]⟩] w fun e w'=>e=.returned (.string ⟨(noMark s.data.toList).toArray⟩)∧w=w':=by
 have k:=Tryz.strings_TrimPrefix s ⟨#[33]⟩ w;rw[show (⟨#[33]⟩:ByteArray).data.toList=[33] from rfl,trim_mark]at k;exact k.mono fun e w' ⟨h1,h2⟩=>⟨h1,h2.symm⟩
theorem scmp_any(a b:List UInt8)(w:World):Calls Tryz.prog 92 #[.string ⟨a.toArray⟩,.string ⟨b.toArray⟩] w (GiveI w (Lib.compareBytes a b)) :=
 (Tryz.strings_Compare ⟨a.toArray⟩ ⟨b.toArray⟩ w).mono fun e w' ⟨h1,h2⟩=>⟨h1,h2▸Below.refl _ _⟩
theorem nameC_iff{c:UInt8}:nameC c=true↔((97≤c.toNat∧c.toNat≤122)∨(48≤c.toNat∧c.toNat≤57)):=by
 unfold nameC;simp only[Bool.or_eq_true,Bool.and_eq_true,decide_eq_true_eq]
theorem all_more{l:List UInt8}{k:Nat}(hk:k<l.length)(h:(l.take k).all nameC=true)(ho:nameC (gb l k)=true):(l.take (k+1)).all nameC=true:=by
 have e:gb l k=l[k]:=by unfold gb;rw[List.getElem?_eq_getElem hk];rfl
 rw[List.take_add_one,List.getElem?_eq_getElem hk,List.all_append,h];rw[e]at ho;show (true&&(nameC l[k]&&true))=true;rw[ho];rfl
theorem all_stop{l:List UInt8}{k:Nat}(hk:k<l.length)(ho:nameC (gb l k)=false):l.all nameC=false:=by
 have e:gb l k=l[k]:=by unfold gb;rw[List.getElem?_eq_getElem hk];rfl
 rw[e]at ho;exact List.all_eq_false.2 ⟨l[k],List.getElem_mem hk,by rw[ho];decide⟩
theorem nameC_no{c:UInt8}(h:¬((97≤c.toNat∧c.toNat≤122)∨(48≤c.toNat∧c.toNat≤57))):nameC c=false:=by
 cases e:nameC c with
 | false=>rfl
 | true=>exact absurd (nameC_iff.1 e) h
theorem bname_any(s:ByteArray)(w:World) :
  Calls Tryz.prog 89 #[.string s] w (GiveB w (isName s.data.toList)):=by
 have hsl:=size_toList s;by_cases h0:s.size=0
 ·have he:s.toList.isEmpty=true:=by rw[toList_empty];simpa using h0
  have HO:Hid (isName s.data.toList=false):=zh (by unfold isName;rw[hsl,h0];simp);clear h0 hsl;go_enter Tryz.func89,Tryz.ntmps89;go_wp2_with fail;go_ret;exact⟨ret_bool (by rw[HO.out]),Below.refl _ _⟩
 ·have he:s.toList.isEmpty=false:=by rw[toList_empty];simpa using h0
  by_cases h20:(20:Int)<(s.size:Int)
  ·have HO:Hid (isName s.data.toList=false):=zh (by unfold isName;rw[hsl,decide_eq_false (show ¬s.size≤20 by omega),Bool.and_false,Bool.and_false]);clear h0 hsl;go_enter Tryz.func89,Tryz.ntmps89;go_wp2_with fail;go_ret;exact⟨ret_bool (by rw[HO.out]),Below.refl _ _⟩
  ·have HR:Hid (isName s.data.toList=(noMark s.data.toList).all nameC):=zh (by rw[name_mark,hsl,decide_eq_true (show s.size≤20 by omega),decide_eq_true (show 1≤s.size by omega)];simp);have ht:=noMark_len s.data.toList;rw[hsl]at ht;have ct:=fun w=>mark_any s w;generalize noMark s.data.toList=t at *;have ht2:t.length≤20:=by omega
   have hcv:=fun w s=>run_bytes_of_string (P:=Tryz.prog) w 9 101 5 s Tryz.underlying9 Tryz.underlying101 Tryz.underlying5;clear h0 hsl ht;go_enter Tryz.func89,Tryz.ntmps89;go_wp2_with fail;refine(ct _).mono ?_;rintro e w' ⟨rfl,rfl⟩;go_wp2_with fail;generalize grownCap w t.length 0 5=cap;obtain⟨Wc,hWc⟩:∃Wc,(w.alloc (.cells (bytesRow ⟨t.toArray⟩ cap) 5 ((bytesRow ⟨t.toArray⟩ cap).size,(bytesRow ⟨t.toArray⟩ cap).size+1))).drew=Wc:=⟨_,rfl⟩;rw[hWc];have hby:∀j,j<t.length→Wc.cell? ⟨w.heap.size,j,none⟩=some (.int .u8 ((gb t j).toNat:Int)):=fun j hj=>by
    rw[←hWc];exact bytes_new w ⟨t.toArray⟩ cap _ _ j (by rw[size_of];exact hj)
   have BW:Below w.heap.size w Wc:=by rw[←hWc];exact((Below.refl _ w).alloc (Nat.le_refl _) _).drew
   clear hWc hcv ct
   go_loop [16] (fun i=>∃k:Nat,k≤t.length∧i=.int .i64 k∧Hid ((t.take k).all nameC=true)) (fun i=>t.length-(intOf i).toNat)
   case atStart=>exact⟨0,Nat.zero_le _,rfl,rfl⟩
   case round =>
    obtain⟨k,hk,rfl,HJ⟩:=hrel;by_cases hlt:k<t.length
    ·have hb:=hby k hlt;by_cases a1:((gb t k).toNat:Int)<97
     ·by_cases a2:((gb t k).toNat:Int)<48
      ·have HO:Hid (t.all nameC=false):=zh (all_stop hlt (nameC_no (by omega)))
       go_wp2
       go_ret;exact⟨ret_bool (by rw[HR.out,HO.out]),BW⟩
      ·by_cases a3:57<((gb t k).toNat:Int)
       ·have HO:Hid (t.all nameC=false):=zh (all_stop hlt (nameC_no (by omega)))
        go_wp2
        go_ret;exact⟨ret_bool (by rw[HR.out,HO.out]),BW⟩
       ·have HO:Hid (nameC (gb t k)=true):=zh (nameC_iff.2 (by omega))
        go_wp2
        go_round
        case rel=>exact⟨k+1,hlt,by go_num,all_more hlt HJ.out HO.out⟩
        case measure=>simp[intOf];omega
     ·by_cases a2:122<((gb t k).toNat:Int)
      ·have f1:¬((gb t k).toNat:Int)<48:=by omega
       have f2:57<((gb t k).toNat:Int):=by omega
       have HO:Hid (t.all nameC=false):=zh (all_stop hlt (nameC_no (by omega)))
       go_wp2
       go_ret;exact⟨ret_bool (by rw[HR.out,HO.out]),BW⟩
      ·have HO:Hid (nameC (gb t k)=true):=zh (nameC_iff.2 (by omega))
       go_wp2
       go_round
       case rel=>exact⟨k+1,hlt,by go_num,all_more hlt HJ.out HO.out⟩
       case measure=>simp[intOf];omega
    ·obtain rfl:k=t.length:=by omega
     have HO:Hid (t.all nameC=true):=zh (by have:=HJ.out;rw[List.take_length]at this;exact this)
     go_wp2
     go_ret;exact⟨ret_bool (by rw[HR.out,HO.out]),BW⟩
theorem or_any(b:Nat)(x y:Int)(w:World)(h0:w.cell? ⟨b,0,none⟩=some (.int .i64 x))(h1:w.cell? ⟨b,1,none⟩=some (.int .i64 y)) :
  Calls Tryz.prog 91 #[.slice (some ⟨b,0,none⟩) 2 2] w (GiveI w (orZ x y)):=by
 go_enter Tryz.func91,Tryz.ntmps91
 go_wp2
 go_loop [8] (fun i=>∃k:Nat,i=.int .i64 k∧(k=0∨(k=1∧x=0)∨(k=2∧(x=0∧y=0)))) (fun i=>2-(intOf i).toNat)
 case atStart=>exact⟨0,rfl,.inl rfl⟩
 case round =>
  obtain⟨k,rfl,hk⟩:=hrel;rcases hk with rfl|⟨rfl,hx⟩|⟨rfl,hx,hy⟩
  ·by_cases hx:x=0
   ·go_wp2
    go_round
    case rel=>exact⟨1,by go_num,.inr (.inl ⟨rfl,hx⟩)⟩
    case measure=>simp[intOf]
   ·have HO:Hid (orZ x y=x):=zh (orZ_left hx)
    go_wp2
    go_ret;exact⟨ret_int (by first|rw[HO.out]|exact(orZ_right _).symm|rfl),Below.refl _ _⟩
  ·have HO:Hid (orZ x y=y):=zh (by rw[hx];exact orZ_right y);by_cases hy:y=0
   ·go_wp2
    go_round
    case rel=>exact⟨2,by go_num,.inr (.inr ⟨rfl,hx,hy⟩)⟩
    case measure=>simp[intOf]
   ·go_wp2
    go_ret;exact⟨ret_int (by first|rw[HO.out]|exact(orZ_right _).symm|rfl),Below.refl _ _⟩
  ·have HO:Hid (orZ x y=0):=zh (by rw[hx,hy];rfl)
   go_wp2
   go_ret;exact⟨ret_int (by first|rw[HO.out]|exact(orZ_right _).symm|rfl),Below.refl _ _⟩
theorem or_new(w:World)(x y:Int)(t:TypeId):Calls Tryz.prog 91 #[.slice (some ⟨w.heap.size,0,none⟩) 2 2] (w.alloc (.cells #[.int .i64 x,.int .i64 y] t)) (GiveI (w.alloc (.cells #[.int .i64 x,.int .i64 y] t)) (orZ x y)) :=
 or_any _ x y _ (cell_new _ _ _ _ rfl 0) (cell_new _ _ _ _ rfl 1)
end Go.Proofs.YtghioekjghmdaaaGreatDoor
