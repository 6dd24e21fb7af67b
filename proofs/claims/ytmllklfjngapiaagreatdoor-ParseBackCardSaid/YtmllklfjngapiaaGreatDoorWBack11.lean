/- Own work. -/
import Derived.Test.YtmllklfjngapiaaGreatDoorWBlanks11M
set_option linter.unusedSimpArgs false
set_option linter.unusedVariables false
set_option maxHeartbeats 4000000
set_option maxRecDepth 100000
namespace Go.Proofs.YtmllklfjngapiaaGreatDoor
open Go.RowKit
open Tm (Nd plainN checkT printT)
open Pz (PsIs)
theorem place_pos{ts:List Wd.Tk}(h:∀k∈ts,1≤k.line∧1≤k.col)(i:Nat):1≤(Pz.placeT ts i).1∧1≤(Pz.placeT ts i).2:=by
 unfold Pz.placeT;split
 ·rename_i k e;exact h k (List.mem_of_getElem? e)
 ·split
  ·rename_i k e
   have:=h k (List.mem_of_getLast? e);exact⟨this.1,by show 1≤k.col+k.text.length;omega⟩
  ·exact⟨Nat.le_refl _,Nat.le_refl _⟩
theorem lex_pos{s:List UInt8}{ts:List Wd.Tk}{er:Int}{a b:Nat}(h:Wd.lexD s=(ts,er,a,b)):(∀k∈ts,1≤k.line∧1≤k.col)∧(er≠0→1≤a∧1≤b):=by
 unfold Wd.lexD at h;obtain⟨h1,h2⟩:=Wd.lex_from s 1 1;split at h
 ·cases h;exact⟨fun _ h=>(by cases h),fun _=>⟨Nat.le_refl _,Nat.le_refl _⟩⟩
 ·split at h
  ·cases h
   exact⟨fun k hk=>by rcases h1 k hk with e|e<;>exact⟨by omega,by omega⟩,fun e=>absurd rfl e⟩
  ·rename_i p e
   cases h
   exact⟨fun _ h=>(by cases h),fun _=>by rcases h2 p e with e|e<;>exact⟨by omega,by omega⟩⟩
theorem ps_pos{s:List UInt8}{t:List Nd}{e:Int}{a b:Nat}(h:PsIs s (t,e,a,b))(he:e≠0):1≤a∧1≤b:=by
 obtain⟨ts,er,x,y,hl,⟨h0,hR⟩|⟨h0,z,hp,hR⟩⟩:=h
 ·cases hR
  exact(lex_pos hl).2 h0
 ·have hk:=(lex_pos hl).1;have hq:=place_pos hk;have key:∀z':Pz.Rs,(t,e,a,b)=Pz.outR ts z'→1≤a∧1≤b:=by
   intro z' hz
   cases z' with
   | bad e' n =>
    have hz:(t,e,a,b)=([],e',(Pz.placeT ts (ts.length-n)).1,(Pz.placeT ts (ts.length-n)).2):=hz
    cases hz;exact hq _
   | ok r u =>
    have hz:(t,e,a,b)=if checkT u=0 then (u,(0:Int),0,0) else ([],100,1,1):=hz
    split at hz
    ·cases hz;exact absurd rfl he
    ·cases hz;exact⟨Nat.le_refl _,Nat.le_refl _⟩
  exact key _ hR
theorem check_two(t:List Nd):checkT t=0∧(printT t).length≤20000∨checkT t=100:=by
 unfold checkT;split
 ·exact .inr rfl
 ·rename_i h;exact .inl ⟨rfl,by omega⟩
theorem back11_big(p:Option Addr)(c:Nat)(t:List Nd)(s:List UInt8)(w:World)(hg:GoodP w)(hct:t.length≤c)(hnt:t.length≤4611686018427387904)(HRt:Hid (∀x∈t,RgN x))(hTt:Nds w p t)(hsm:smallT t=false):Calls Tryz.prog 4 #[.slice p t.length c,.string ⟨s.toArray⟩] w (GiveB w true):=by
 have HG:=zh hg;have HT:=zh hTt;clear hg hTt HRt
 go_enter Tryz.func4,Tryz.ntmps4;go_wp2_with fail;refine(fixed11_any _ HG.out).mono ?_;rintro r w1 ⟨rfl,b⟩;have B1:=zh b;replace HG:=hid_g HG b;replace HT:=zh (HT.out.below b);clear b;go_wp2_with fail;refine(rtsmall_any p c t _ hnt HT.out).mono ?_;rintro r w2 ⟨rfl,b⟩;have B2:=zh (Below.more B1.out b);replace HG:=hid_g HG b;replace HT:=zh (HT.out.below b);clear b B1;rw[hsm];go_wp2_with fail;refine(fixed11_any _ HG.out).mono ?_;rintro r w3 ⟨rfl,b⟩;have B3:=zh (Below.more B2.out b);clear b B2;go_wp2_with fail;go_ret;exact⟨ret_bool (by first|rfl|simp),B3.out⟩
theorem back11_long(p:Option Addr)(c:Nat)(t:List Nd)(s:List UInt8)(w:World)(hg:GoodP w)(hct:t.length≤c)(hnt:t.length≤4611686018427387904)(HRt:Hid (∀x∈t,RgN x))(hTt:Nds w p t)(hsm:smallT t=true)(hn:¬s.length≤2000):Calls Tryz.prog 4 #[.slice p t.length c,.string ⟨s.toArray⟩] w (GiveB w true):=by
 have HG:=zh hg;have HT:=zh hTt;clear hg hTt HRt
 have hsz:=size_tx s;have h2:(2000:Int)<(s.length:Int):=by omega
 go_enter Tryz.func4,Tryz.ntmps4;go_wp2_with fail;refine(fixed11_any _ HG.out).mono ?_;rintro r w1 ⟨rfl,b⟩;have B1:=zh b;replace HG:=hid_g HG b;replace HT:=zh (HT.out.below b);clear b;go_wp2_with fail;refine(rtsmall_any p c t _ hnt HT.out).mono ?_;rintro r w2 ⟨rfl,b⟩;have B2:=zh (Below.more B1.out b);replace HG:=hid_g HG b;replace HT:=zh (HT.out.below b);clear b B1;rw[hsm];go_wp2_with fail;refine(fixed11_any _ HG.out).mono ?_;rintro r w3 ⟨rfl,b⟩;have B3:=zh (Below.more B2.out b);clear b B2;go_wp2_with fail;go_ret;exact⟨ret_bool (by first|rfl|simp),B3.out⟩
theorem back11_no(p:Option Addr)(c:Nat)(t:List Nd)(s:List UInt8)(w:World)(hg:GoodP w)(hct:t.length≤c)(hnt:t.length≤4611686018427387904)(HRt:Hid (∀x∈t,RgN x))(hTt:Nds w p t)(hsm:smallT t=true)(hn:s.length≤2000)(hck:checkT t=100):Calls Tryz.prog 4 #[.slice p t.length c,.string ⟨s.toArray⟩] w (GiveB w true):=by
 have HG:=zh hg;have HT:=zh hTt;clear hg hTt
 have hsz:=size_tx s;have h2:¬(2000:Int)<(s.length:Int):=by omega
 have HSZ:=zh (small_sz hsm HRt.out);have HZB:=rt_big HSZ.out;have HF1:=zh (few_short hn);have CS1:=zh (fun w hg=>give_s (s:=s) (by omega) HF1.out w hg);clear HRt HSZ hn;go_enter Tryz.func4,Tryz.ntmps4;go_wp2_with fail;refine(fixed11_any _ HG.out).mono ?_;rintro r w1 ⟨rfl,b⟩;have B1:=zh b;replace HG:=hid_g HG b;replace HT:=zh (HT.out.below b);clear b;go_wp2_with fail;refine(rtsmall_any p c t _ hnt HT.out).mono ?_;rintro r w2 ⟨rfl,b⟩;have B2:=zh (Below.more B1.out b);replace HG:=hid_g HG b;replace HT:=zh (HT.out.below b);clear b B1;rw[hsm];go_wp2_with fail;refine(CS1.out _ HG.out).mono ?_;rintro r w3 ⟨u,e,a,d,q1,c1,hp,rfl,hn1,hz1,b⟩;have B3:=zh (Below.more B2.out b);replace HG:=hid_g HG b;replace HT:=zh (HT.out.below b);have HP:=zh hp;have HN:=zh hn1;have HZ:=zh hz1;clear b B2 CS1 hp hn1 hz1;by_cases he:e=0
 ·subst he;obtain⟨hcu,ha,hd⟩:=Pz.ps_check HP.out;subst ha hd;have hlu:=term_len HF1.out HP.out;have hpu:(printT u).length≤20000:=by
   rcases check_two u with h|h
   ·exact h.2
   ·rw[h]at hcu;cases hcu
  have HZU:=rt_big HZ.out;have CU:=zh (fun w hg=>give_t (Pz.ps_back hcu) hpu (few_print hcu hlu) w hg);clear hpu HP;go_wp2_with fail;refine(rtprint_any q1 c1 u _ HZU HN.out).mono ?_;rintro r w4 ⟨rfl,b⟩;have B4:=zh (Below.more B3.out b);replace HG:=hid_g HG b;replace HT:=zh (HT.out.below b);replace HN:=zh (HN.out.below b);clear b B3;go_wp2_with fail;refine(CU.out _ HG.out).mono ?_;rintro r w5 ⟨⟨q2,c2,rfl,hc2,hn2,hz2⟩,b⟩;have B5:=zh (Below.more B4.out b);replace HG:=hid_g HG b;replace HT:=zh (HT.out.below b);replace HN:=zh (HN.out.below b);have HN2:=zh hn2;clear b B4 hc2 hn2 hz2 CU;go_wp2_with fail;refine(rtcheck_any q1 c1 u _ HZU HN.out).mono ?_;rintro r w6 ⟨rfl,b⟩;have B6:=zh (Below.more B5.out b);replace HG:=hid_g HG b;replace HT:=zh (HT.out.below b);replace HN:=zh (HN.out.below b);replace HN2:=zh (HN2.out.below b);clear b B5;rw[hcu];go_wp2_with fail;refine(rtsame_any q1 q2 c1 c2 u u _ (by omega) (by omega) HN.out HN2.out).mono ?_;rintro r w7 ⟨rfl,b⟩;have B7:=zh (Below.more B6.out b);replace HG:=hid_g HG b;replace HT:=zh (HT.out.below b);clear b B6 HN HN2;go_wp2_with fail;refine(rtcheck_any p c t _ HZB HT.out).mono ?_;rintro r w8 ⟨rfl,b⟩;have B8:=zh (Below.more B7.out b);replace HG:=hid_g HG b;replace HT:=zh (HT.out.below b)
  try rw[hck]
  clear b B7;go_wp2_with fail;go_ret;exact⟨ret_bool (by first|rfl|simp),B8.out⟩
 ·have hu:=Pz.ps_none HP.out he;subst hu;have ⟨hp1,hp2⟩:=ps_pos HP.out he;have hp1':¬(a:Int)<1:=by omega
  have hp2':¬(d:Int)<1:=by omega
  have hne:(e==0)=false:=beq_false_of_ne he;clear hp1 hp2;go_wp2_with fail;refine(rtcheck_any p c t _ HZB HT.out).mono ?_;rintro r w4 ⟨rfl,b⟩;have B4:=zh (Below.more B3.out b);replace HG:=hid_g HG b;replace HT:=zh (HT.out.below b)
  try rw[hck]
  clear b B3;go_wp2_with fail;go_ret;exact⟨ret_bool (by first|rfl|simp),B4.out⟩
theorem back11_yes(p:Option Addr)(c:Nat)(t:List Nd)(s:List UInt8)(w:World)(hg:GoodP w)(hct:t.length≤c)(hnt:t.length≤4611686018427387904)(HRt:Hid (∀x∈t,RgN x))(hTt:Nds w p t)(hsm:smallT t=true)(hn:s.length≤2000)(hck:checkT t=0)(hpt:(printT t).length≤20000):Calls Tryz.prog 4 #[.slice p t.length c,.string ⟨s.toArray⟩] w (GiveB w true):=by
 have HG:=zh hg;have HT:=zh hTt;clear hg hTt
 have hsz:=size_tx s;have h2:¬(2000:Int)<(s.length:Int):=by omega
 have HSZ:=zh (small_sz hsm HRt.out);have HZB:=rt_big HSZ.out;have HF1:=zh (few_short hn);have CS1:=zh (fun w hg=>give_s (s:=s) (by omega) HF1.out w hg);have hlt:=small_len hsm;have CT:=zh (fun w hg=>give_t (Pz.ps_back hck) hpt (few_print hck (by omega)) w hg);clear HRt HSZ hn;go_enter Tryz.func4,Tryz.ntmps4;go_wp2_with fail;refine(fixed11_any _ HG.out).mono ?_;rintro r w1 ⟨rfl,b⟩;have B1:=zh b;replace HG:=hid_g HG b;replace HT:=zh (HT.out.below b);clear b;go_wp2_with fail;refine(rtsmall_any p c t _ hnt HT.out).mono ?_;rintro r w2 ⟨rfl,b⟩;have B2:=zh (Below.more B1.out b);replace HG:=hid_g HG b;replace HT:=zh (HT.out.below b);clear b B1;rw[hsm];go_wp2_with fail;refine(CS1.out _ HG.out).mono ?_;rintro r w3 ⟨u,e,a,d,q1,c1,hp,rfl,hn1,hz1,b⟩;have B3:=zh (Below.more B2.out b);replace HG:=hid_g HG b;replace HT:=zh (HT.out.below b);have HP:=zh hp;have HN:=zh hn1;have HZ:=zh hz1;clear b B2 CS1 hp hn1 hz1;by_cases he:e=0
 ·subst he;obtain⟨hcu,ha,hd⟩:=Pz.ps_check HP.out;subst ha hd;have hlu:=term_len HF1.out HP.out;have hpu:(printT u).length≤20000:=by
   rcases check_two u with h|h
   ·exact h.2
   ·rw[h]at hcu;cases hcu
  have HZU:=rt_big HZ.out;have CU:=zh (fun w hg=>give_t (Pz.ps_back hcu) hpu (few_print hcu hlu) w hg);clear hpu HP;go_wp2_with fail;refine(rtprint_any q1 c1 u _ HZU HN.out).mono ?_;rintro r w4 ⟨rfl,b⟩;have B4:=zh (Below.more B3.out b);replace HG:=hid_g HG b;replace HT:=zh (HT.out.below b);replace HN:=zh (HN.out.below b);clear b B3;go_wp2_with fail;refine(CU.out _ HG.out).mono ?_;rintro r w5 ⟨⟨q2,c2,rfl,hc2,hn2,hz2⟩,b⟩;have B5:=zh (Below.more B4.out b);replace HG:=hid_g HG b;replace HT:=zh (HT.out.below b);replace HN:=zh (HN.out.below b);have HN2:=zh hn2;clear b B4 hc2 hn2 hz2 CU;go_wp2_with fail;refine(rtcheck_any q1 c1 u _ HZU HN.out).mono ?_;rintro r w6 ⟨rfl,b⟩;have B6:=zh (Below.more B5.out b);replace HG:=hid_g HG b;replace HT:=zh (HT.out.below b);replace HN:=zh (HN.out.below b);replace HN2:=zh (HN2.out.below b);clear b B5;rw[hcu];go_wp2_with fail;refine(rtsame_any q1 q2 c1 c2 u u _ (by omega) (by omega) HN.out HN2.out).mono ?_;rintro r w7 ⟨rfl,b⟩;have B7:=zh (Below.more B6.out b);replace HG:=hid_g HG b;replace HT:=zh (HT.out.below b);clear b B6 HN HN2;go_wp2_with fail;refine(rtcheck_any p c t _ HZB HT.out).mono ?_;rintro r w8 ⟨rfl,b⟩;have B8:=zh (Below.more B7.out b);replace HG:=hid_g HG b;replace HT:=zh (HT.out.below b)
  try rw[hck]
  clear b B7;go_wp2_with fail;refine(rtprint_any p c t _ HZB HT.out).mono ?_;rintro r w9 ⟨rfl,b⟩;have B9:=zh (Below.more B8.out b);replace HG:=hid_g HG b;replace HT:=zh (HT.out.below b);clear b B8;go_wp2_with fail;refine(CT.out _ HG.out).mono ?_;rintro r w10 ⟨⟨q9,c9,rfl,hc9,hn9,hz9⟩,b⟩;have B10:=zh (Below.more B9.out b);replace HT:=zh (HT.out.below b);have cs:=rtsame_any q9 p c9 c t t w10 hnt hnt hn9 HT.out;have CS:=zh cs;clear b B9 hc9 hn9 hz9 cs;go_wp2_with fail;refine CS.out.mono ?_;rintro r w11 ⟨rfl,b⟩;have B11:=zh (Below.more B10.out b);clear b B10;go_wp2_with fail;go_ret;exact⟨ret_bool (by first|rfl|simp),B11.out⟩
 ·have hu:=Pz.ps_none HP.out he;subst hu;have ⟨hp1,hp2⟩:=ps_pos HP.out he;have hp1':¬(a:Int)<1:=by omega
  have hp2':¬(d:Int)<1:=by omega
  have hne:(e==0)=false:=beq_false_of_ne he;clear hp1 hp2;go_wp2_with fail;refine(rtcheck_any p c t _ HZB HT.out).mono ?_;rintro r w4 ⟨rfl,b⟩;have B4:=zh (Below.more B3.out b);replace HG:=hid_g HG b;replace HT:=zh (HT.out.below b)
  try rw[hck]
  clear b B3;go_wp2_with fail;refine(rtprint_any p c t _ HZB HT.out).mono ?_;rintro r w5 ⟨rfl,b⟩;have B5:=zh (Below.more B4.out b);replace HG:=hid_g HG b;replace HT:=zh (HT.out.below b);clear b B4;go_wp2_with fail;refine(CT.out _ HG.out).mono ?_;rintro r w6 ⟨⟨q9,c9,rfl,hc9,hn9,hz9⟩,b⟩;have B6:=zh (Below.more B5.out b);replace HT:=zh (HT.out.below b);have cs:=rtsame_any q9 p c9 c t t w6 hnt hnt hn9 HT.out;have CS:=zh cs;clear b B5 hc9 hn9 hz9 cs;go_wp2_with fail;refine CS.out.mono ?_;rintro r w7 ⟨rfl,b⟩;have B7:=zh (Below.more B6.out b);clear b B6;go_wp2_with fail;go_ret;exact⟨ret_bool (by first|rfl|simp),B7.out⟩
theorem back11_any(p:Option Addr)(c:Nat)(t:List Nd)(s:List UInt8)(w:World)(hg:GoodP w)(hct:t.length≤c)(hnt:t.length≤4611686018427387904)(HRt:Hid (∀x∈t,RgN x))(hTt:Nds w p t):Calls Tryz.prog 4 #[.slice p t.length c,.string ⟨s.toArray⟩] w (GiveB w true):=by
 cases hsm:smallT t with
 | false=>exact back11_big p c t s w hg hct hnt HRt hTt hsm
 | true =>
  by_cases hn:s.length≤2000
  ·rcases check_two t with ⟨h,hp⟩|h
   ·exact back11_yes p c t s w hg hct hnt HRt hTt hsm hn h hp
   ·exact back11_no p c t s w hg hct hnt HRt hTt hsm hn h
  ·exact back11_long p c t s w hg hct hnt HRt hTt hsm hn
theorem back11_arr(p:Option Addr)(c:Nat)(t:List Nd)(x:ByteArray)(w:World)(hg:GoodP w)(hct:t.length≤c)(hnt:t.length≤4611686018427387904)(HRt:Hid (∀x∈t,RgN x))(hTt:Nds w p t):Calls Tryz.prog 4 #[.slice p t.length c,.string x] w (GiveB w true):=by
 rw[to_arr x];exact back11_any p c t _ w hg hct hnt HRt hTt
end Go.Proofs.YtmllklfjngapiaaGreatDoor
