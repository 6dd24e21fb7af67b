/- Own work. -/
import Derived.Test.YtnichceiafandaaGreatDoorFixP11M
set_option linter.unusedSimpArgs false
set_option linter.unusedVariables false
set_option maxHeartbeats 4000000
set_option maxRecDepth 100000
namespace Go.Proofs.YtnichceiafandaaGreatDoor
open Go.RowKit
open Tm (Nd plainN checkT printT)
open Pz (PsIs)
theorem in_b(s:List UInt8):(⟨#[32,10]⟩:ByteArray)++⟨s.toArray⟩++⟨#[32,10]⟩=⟨(Pz.inB s).toArray⟩:=by
 refine bytes_eq ?_;unfold Pz.inB;simp
theorem in_p(s:List UInt8):(⟨#[40]⟩:ByteArray)++⟨s.toArray⟩++⟨#[41]⟩=⟨(Pz.inP s).toArray⟩:=by
 refine bytes_eq ?_;unfold Pz.inP;simp
theorem few_b{s:List UInt8}(h:s.length≤2000):FewN (Pz.inB s):=few_w (by
 show wB ([32,10]++(s++[32,10]))≤2000;rw[wB_app,wB_app];have:=wB_le s;show 0+(wB s+0)≤2000;omega)
theorem few_p{s:List UInt8}(h:s.length≤2000):FewN (Pz.inP s):=few_w (by
 show wB ([40]++(s++[41]))≤2000;rw[wB_app,wB_app];have:=wB_le s;show 0+(wB s+0)≤2000;omega)
def GivePS(w:World)(s:List UInt8)(r:Ending)(w':World):Prop:=∃ (t:List Nd) (e:Int) (a b:Nat) (q:Option Addr) (cq:Nat),PsIs s (t,e,a,b)∧r=.returned (.tuple #[.slice q t.length cq,.int .i64 e,.int .i64 (a:Int),.int .i64 (b:Int)])∧Nds w' q t∧(∀x∈t,SzN x)∧Below w.heap.size w w'
theorem give_s{s:List UInt8}(hs:s.length≤20000)(hf:FewN s)(w:World)(hg:GoodP w):Calls Tryz.prog 10 #[.string ⟨s.toArray⟩] w (GivePS w s) :=
 (pparse_any s w hs hg hf).mono fun r w' ⟨⟨t,e,a,b⟩,q,cq,hp,er,hc,hn,hz,hb⟩=>⟨t,e,a,b,q,cq,hp,er,hn,hz,hb⟩
theorem term_len{s:List UInt8}{t:List Nd}{e:Int}{a b:Nat}(hf:FewN s)(h:PsIs s (t,e,a,b)):t.length≤2000:=by
 obtain⟨ts,er,x,y,hl,⟨h0,hR⟩|⟨h0,z,hp,hR⟩⟩:=h
 ·have:=(Prod.mk.inj hR).1;rw[this];exact Nat.zero_le _
 ·subst h0
  cases z with
  | bad e' n =>
   have:=(Prod.mk.inj hR).1;rw[this];exact Nat.zero_le _
  | ok r u =>
   by_cases hr:r=[]
   ·subst hr;have hR:(t,e,a,b)=if checkT u=0 then (u,(0:Int),0,0) else ([],100,1,1):=hR
    split at hR
    ·have:=(Prod.mk.inj hR).1;rw[this];exact hf ts x y hl u hp
    ·have:=(Prod.mk.inj hR).1;rw[this];exact Nat.zero_le _
   ·have hR:(t,e,a,b)=Pz.outR ts (if r=[] then .ok [] u else .bad 110 r.length):=hR;rw[if_neg hr]at hR;have:=(Prod.mk.inj hR).1;rw[this];exact Nat.zero_le _
theorem blanks11_long(s:List UInt8)(w:World)(hg:GoodP w)(hn:¬s.length≤2000):Calls Tryz.prog 7 #[.string ⟨s.toArray⟩] w (GiveB w true):=by
 have HG:=Lib.hid hg;clear hg;have hsz:=size_tx s;have h2:(2000:Int)<(s.length:Int):=by omega
 go_enter Tryz.func7,Tryz.ntmps7;go_wp2_with fail;refine(fixed11_any _ HG.out).mono ?_;rintro r w1 ⟨rfl,b⟩;have B1:=Lib.hid b;replace HG:=hid_g HG b;clear b;go_wp2_with fail;refine(fixed11_any _ HG.out).mono ?_;rintro r w2 ⟨rfl,b⟩;have B2:=Lib.hid (Below.more B1.out b);replace HG:=hid_g HG b;clear b;go_wp2_with fail;go_ret;exact⟨ret_bool (by first|rfl|simp),B2.out⟩
theorem blanks11_main(s:List UInt8)(w:World)(hg:GoodP w)(hn:s.length≤2000):Calls Tryz.prog 7 #[.string ⟨s.toArray⟩] w (GiveB w true):=by
 have HG:=Lib.hid hg;clear hg;have hsz:=size_tx s;have h2:¬(2000:Int)<(s.length:Int):=by omega
 have HL:=Lib.hid hn;have HF1:=Lib.hid (few_short hn);have HF2:=Lib.hid (few_b hn);have HF3:=Lib.hid (few_p hn);have CS:=Lib.hid (fun w hg=>give_s (s:=s) (by omega) HF1.out w hg);have CB:=Lib.hid (fun w hg=>give_s (s:=Pz.inB s) (by rw[Pz.inB_len];omega) HF2.out w hg);have CP:=Lib.hid (fun w hg=>give_s (s:=Pz.inP s) (by rw[Pz.inP_len];omega) HF3.out w hg);clear hn;go_enter Tryz.func7,Tryz.ntmps7;go_wp2_with fail;refine(fixed11_any _ HG.out).mono ?_;rintro r w1 ⟨rfl,b⟩;have B1:=Lib.hid b;replace HG:=hid_g HG b;clear b;go_wp2_with fail;refine(CS.out _ HG.out).mono ?_;rintro r w2 ⟨t,e,a,b0,q1,c1,hp1,rfl,hn1,hz1,b⟩;have B2:=Lib.hid (Below.more B1.out b);replace HG:=hid_g HG b;have HP1:=Lib.hid hp1;have HN1:=Lib.hid hn1;have HT1:=Lib.hid (term_len HF1.out hp1);clear b hp1 hn1 hz1;go_wp2_with fail;rw[in_b s];refine(CB.out _ HG.out).mono ?_;rintro r w3 ⟨t2,e2,a2,d2,q2,c2,hp2,rfl,hn2,hz2,b⟩;have B3:=Lib.hid (Below.more B2.out b);replace HG:=hid_g HG b;replace HN1:=Lib.hid (HN1.out.below b);have HP2:=Lib.hid hp2;have HN2:=Lib.hid hn2;have HT2:=Lib.hid (term_len HF2.out hp2);clear b hp2 hn2 hz2 B2;go_wp2_with fail;rw[in_p s];refine(CP.out _ HG.out).mono ?_;rintro r w4 ⟨t3,e3,a3,d3,q3,c3,hp3,rfl,hn3,hz3,b⟩;have B4:=Lib.hid (Below.more B3.out b);replace HN1:=Lib.hid (HN1.out.below b);replace HN2:=Lib.hid (HN2.out.below b);have HP3:=Lib.hid hp3;have HN3:=Lib.hid hn3;have HT3:=Lib.hid (term_len HF3.out hp3);clear b hp3 hn3 hz3 B3;obtain⟨a4,b4,hbl⟩:=Pz.ps_blanks HL.out HP1.out;have hbe:=Pz.ps_det hbl HP2.out
 obtain⟨rfl,hbe2⟩:=Prod.mk.inj hbe;obtain⟨rfl,hbe3⟩:=Prod.mk.inj hbe2;dsimp only at HN2 HT2 HP2 ⊢;clear hbl hbe hbe2 hbe3;by_cases he:e=0
 ·subst he;have hpp:=Pz.ps_paren HL.out HP1.out;have CE1:=Lib.hid (fun V (b:Below w4.heap.size w4 V)=>rtsame_any q1 q2 c1 c2 t t V (by have:=HT1.out;omega) (by have:=HT1.out;omega) (HN1.out.below b) (HN2.out.below b));have hd:decide (t=t)=true:=decide_eq_true rfl;rcases hpp with hpp|⟨a5,b5,hpp⟩
  ·have hpe:=Pz.ps_det hpp HP3.out;obtain⟨rfl,hpe2⟩:=Prod.mk.inj hpe;obtain⟨rfl,hpe3⟩:=Prod.mk.inj hpe2;clear hpp hpe hpe2 hpe3;have CE2:=Lib.hid (fun V (b:Below w4.heap.size w4 V)=>rtsame_any q1 q3 c1 c3 t t V (by have:=HT1.out;omega) (by have:=HT1.out;omega) (HN1.out.below b) (HN3.out.below b));go_wp2_with fail;refine(CE1.out _ (Below.refl _ _)).mono ?_;rintro r w5 ⟨rfl,b⟩;have b5:=b;go_wp2_with fail;refine(CE2.out _ b5).mono ?_;rintro r w6 ⟨rfl,b6⟩;have BB:=Lib.hid (Below.more (Below.more B4.out b5) b6);clear b b5 b6 CE1 CE2;go_wp2_with fail;go_ret;exact⟨ret_bool (by first|rfl|simp),BB.out⟩
  ·have hpe:=Pz.ps_det hpp HP3.out;obtain⟨h1,hpe2⟩:=Prod.mk.inj hpe;obtain⟨h2,hpe3⟩:=Prod.mk.inj hpe2;subst h1 h2;clear hpp hpe hpe2 hpe3;go_wp2_with fail;refine(CE1.out _ (Below.refl _ _)).mono ?_;rintro r w5 ⟨rfl,b⟩;have BB:=Lib.hid (Below.more B4.out b);clear b CE1;go_wp2_with fail;go_ret;exact⟨ret_bool (by first|rfl|simp),BB.out⟩
 ·have h0:=Pz.ps_none HP1.out he;subst h0;have hne:(e==0)=false:=beq_false_of_ne he;go_wp2_with fail;go_ret;exact⟨ret_bool (by first|rfl|simp),B4.out⟩
theorem blanks11_any(s:List UInt8)(w:World)(hg:GoodP w):Calls Tryz.prog 7 #[.string ⟨s.toArray⟩] w (GiveB w true):=by
 by_cases h:s.length≤2000
 ·exact blanks11_main s w hg h
 ·exact blanks11_long s w hg h
theorem to_arr(x:ByteArray):x=⟨x.data.toList.toArray⟩:=by cases x;simp
theorem blanks11_arr(x:ByteArray)(w:World)(hg:GoodP w):Calls Tryz.prog 7 #[.string x] w (GiveB w true):=by
 rw[to_arr x];exact blanks11_any _ w hg
end Go.Proofs.YtnichceiafandaaGreatDoor
