/- Own work. -/
import Derived.Test.YtmllklfjngapiaaGreatDoorAllPaOM
set_option linter.unusedSimpArgs false
set_option linter.unusedVariables false
set_option maxHeartbeats 4000000
set_option maxRecDepth 100000
namespace Go.Proofs.YtmllklfjngapiaaGreatDoor
open Go.RowKit
open Wd (Tk okT ktT)
open Tm (Nd plainN arI arN)
open Pz (Wt tgt settleF)
open Pz (takeF sg lfR opName opOf tgt)
def ExitTwo(J0 J1:Act→World→Prop)(Q:Exit→Act→World→Prop):Exit→Act→World→Prop
 | .goto l,a,w=>(l=0∧J0 a w)∨(l=1∧J1 a w)
 | e,a,w=>Q e a w
section
variable {P : Program} {a : Act} {w : World} {Q : Exit → Act → World → Prop}
theorem two_many(J0 J1:Act→World→Prop):∀e a w,ExitTwo J0 J1 Q e a w→ExitMany (fun l=>l=0∨l=1) (fun l=>if l=0 then J0 else J1) Q e a w:=fun e a w h=>by
 cases e with
 | goto l =>
  rcases h with ⟨rfl,h⟩|⟨rfl,h⟩
  ·exact⟨.inl rfl,h⟩
  ·exact⟨.inr rfl,h⟩
 | _=>exact h
theorem wp_scope_two{c rest0 rest1:Code}(J0 J1:Act→World→Prop)(μ:Act→World→Nat)(h0:findLabel c 0=some (.seq .skip rest0))(h1:findLabel c 1=some (.seq .skip rest1))
  (pass0:∀a w,J0 a w→rest0.wp P (ExitTwo (fun a' w'=>J0 a' w'∧μ a' w' < μ a w) (fun a' w'=>J1 a' w'∧μ a' w' < μ a w) Q) a w)
  (pass1:∀a w,J1 a w→rest1.wp P (ExitTwo (fun a' w'=>J0 a' w'∧μ a' w' < μ a w) (fun a' w'=>J1 a' w'∧μ a' w' < μ a w) Q) a w)
  (first:(∀a w,J0 a w→rest0.wp P (ExitTwo J0 J1 Q) a w)→c.wp P (ExitTwo J0 J1 Q) a w):(Code.scope c).wp P Q a w:=by
 refine wp_scope_many (fun l=>l=0∨l=1) (fun l=>if l=0 then .seq .skip rest0 else .seq .skip rest1) (fun l=>if l=0 then J0 else J1) μ ?_ ?_ ?_
 ·rintro l (rfl|rfl)
  ·exact h0
  ·exact h1
 ·refine wp_mono (first fun a w h=>wp_mono (pass0 a w h) fun e a' w' hq=>?_) (two_many J0 J1)
  cases e with
  | goto l =>
   rcases hq with ⟨e,hq,_⟩|⟨e,hq,_⟩
   ·exact .inl ⟨e,hq⟩
   ·exact .inr ⟨e,hq⟩
  | _=>exact hq
 ·rintro l (rfl|rfl) a w hJ
  ·refine wp_seq (wp_skip (wp_mono (pass0 a w hJ) fun e a' w' hq=>?_))
   cases e with
   | goto l =>
    rcases hq with ⟨rfl,hq⟩|⟨rfl,hq⟩
    ·exact⟨.inl rfl,hq⟩
    ·exact⟨.inr rfl,hq⟩
   | _=>exact hq
  ·refine wp_seq (wp_skip (wp_mono (pass1 a w hJ) fun e a' w' hq=>?_))
   cases e with
   | goto l =>
    rcases hq with ⟨rfl,hq⟩|⟨rfl,hq⟩
    ·exact⟨.inl rfl,hq⟩
    ·exact⟨.inr rfl,hq⟩
   | _=>exact hq
end
def kOf(R:Nat)(w:World):Nat:=match w.cell? ⟨R,1,none⟩ with
 | some (.int _ n)=>n.toNat
 | _=>0
theorem RdS.kOf{R:Nat}{Z:List Nat}{p:Option Addr}{c:Nat}{mv wv ov:Value}{l:List Tk}{k d:Nat}{K:List Wt}{t:List Nd}{w:World}(h:RdS R Z p c mv l k d K t wv ov w):kOf R w=k:=by
 have e:=h.blk.c 1 _ rfl;unfold Go.Proofs.YtmllklfjngapiaaGreatDoor.kOf;rw[e];exact Int.toNat_natCast k
def RdI(R To Tx mb:Nat)(p:Option Addr)(c:Nat)(l:List Tk)(w0:World)(lab:Nat)(w':World):Prop :=
 ∃ (k d:Nat) (K:List Wt) (t:List Nd) (wv ov:Value) (q:Int) (s:Pz.Nm),RdS R [To,Tx] p c (.map (some mb)) l k d K t wv ov w'∧Below R w0 w'∧Blk To [.int .i64 q] w'∧xI Tx s w'∧PSt l lab k d K t
def RdJ(R To Tx mb:Nat)(p:Option Addr)(c:Nat)(l:List Tk)(w0:World)(lab:Nat)(a':Act)(w':World):Prop :=
 ∃ (u1 u2 u5 u6 u7 u8 u9 u10 u11 u12 u13 u14 u15 u16 u17 u18 u19 u20 u21 u22 u23 u24 u25 u26 u27 u28 u29 u30 u31 u32 u33 u34 u35 u36 u37 u38 u39 u40 u41 u42 u43 u44 u45 u46 u47 u48 u49 u50 u51 u52 u53 u54 u55 u56 u57 u58 u59 u60 u61 u62 u63 u64:Value),a'={ tmps:=#[.pointer (some ⟨R,0,none⟩),u1,u2,.pointer (some ⟨To,0,none⟩),.pointer (some ⟨Tx,0,none⟩),u5,u6,u7,u8,u9,u10,u11,u12,u13,u14,u15,u16,u17,u18,u19,u20,u21,u22,u23,u24,u25,u26,u27,u28,u29,u30,u31,u32,u33,u34,u35,u36,u37,u38,u39,u40,u41,u42,u43,u44,u45,u46,u47,u48,u49,u50,u51,u52,u53,u54,u55,u56,u57,u58,u59,u60,u61,u62,u63,u64],defers:=[] }∧RdI R To Tx mb p c l w0 lab w'
def RdEnd(R mb:Nat)(p:Option Addr)(c:Nat)(l:List Tk)(w0:World)(r:Ending)(w':World):Prop :=
 ∃ (k d:Nat) (K:List Wt) (t:List Nd) (wv ov:Value) (e:Int),r=.returned (.int .i64 e)∧RdS R [] p c (.map (some mb)) l k d K t wv ov w'∧Below R w0 w'∧k≤l.length∧t.length≤1000000∧(∀x∈t,SzN x)∧PFin l k t e
variable {R To Tx mb : Nat} {p : Option Addr} {c : Nat} {l : List Tk} {w0 : World}
structure RdE(R To Tx mb:Nat)(p:Option Addr)(l:List Tk)(w0:World):Prop where
 e:PEn R p l w0
 n:NamesM mb w0
 m:mb<R
 ot:R<To
 tx:To<Tx
 rl:R<w0.heap.size
theorem RdE.names{w':World}(h:RdE R To Tx mb p l w0)(hb:Below R w0 w'):NamesM mb w':=by
 obtain⟨es,ck,e,r⟩:=h.n;exact⟨es,ck,(hb.block mb h.m).trans e,r⟩
theorem xI.keep{s:Pz.Nm}{Z:List Nat}{w1 w':World}(h:xI Tx s w1)(hk:Kept R Z w1 w')(hT:Tx∈Z):xI Tx s w':=Blk.keep h hk hT
theorem pread_any{wv ov:Value}(h:RdS R [] p c (.map (some mb)) l 0 0 [] [] wv ov w0)(E:PEn R p l w0)(hN:NamesM mb w0)(hm:mb<R) :
  Calls Tryz.prog 17 #[.pointer (some ⟨R,0,none⟩)] w0 (RdEnd R mb p c l w0):=by
 have HE:=zh (show RdE R w0.heap.size (w0.heap.size+1) mb p l w0 from ⟨E,hN,hm,h.blk.lt,Nat.lt_succ_self _,h.blk.lt⟩);have HH:=zh h;clear h E hN hm;go_enter Tryz.func17,Tryz.ntmps17;obtain⟨To,hTo⟩:∃To,To=w0.heap.size:=⟨_,rfl⟩;obtain⟨Tx,hTx⟩:∃Tx,Tx=w0.heap.size+1:=⟨_,rfl⟩;rw[←hTx,← hTo]at HE;have HTO:=zh hTo;have HTX:=zh hTx
 clear hTo hTx;go_wp2_with fail;refine wp_scope_two (rest0:=?r0) (rest1:=?r1) (RdJ R To Tx mb p c l w0 0) (RdJ R To Tx mb p c l w0 1) (fun _ w=>l.length-kOf R w) ?h0 ?h1 ?p0 ?p1 ?pf
 case h0=>exact rfl
 case h1=>exact rfl
 ·clear HH HTO HTX;rintro a' w1 ⟨u1,u2,u5,u6,u7,u8,u9,u10,u11,u12,u13,u14,u15,u16,u17,u18,u19,u20,u21,u22,u23,u24,u25,u26,u27,u28,u29,u30,u31,u32,u33,u34,u35,u36,u37,u38,u39,u40,u41,u42,u43,u44,u45,u46,u47,u48,u49,u50,u51,u52,u53,u54,u55,u56,u57,u58,u59,u60,u61,u62,u63,u64,rfl,k,d,K,t,wv,ov,q,s,hR,hB,hTo,hTx,hS⟩;have HK0:=zh hR.kOf;have hs:WrB [To] w1 (w1.setCell ⟨To,0,none⟩ (.int .i64 13)):=WrB.of_set w1 To 0 _ List.mem_cons_self;have HR:=zh (hR.wr hs (fun x c=>by have:=List.mem_singleton.1 c;subst this;exact List.mem_cons_self));have HB:=zh (show Below R w0 (w1.setCell ⟨To,0,none⟩ (.int .i64 13)) from hB.trans (hs.below (fun x c=>by have:=List.mem_singleton.1 c;have:=HE.out.ot;omega) (Nat.le_of_lt hR.blk.lt)));have HTo:=zh (hTo.set 0 (by show 0<1;decide) (.int .i64 13));have HTx:=zh (hTx.wr hs (fun c=>by have:=List.mem_singleton.1 c;have:=HE.out.tx;omega));have c0:=hTo.c 0 _ rfl;have f0:=hTo.f 0 (by show 0<1;decide);have HS:=zh hS;have hlen:=hS.len;have hkl:=hS.kl;have hl6:=HE.out.e.ok.1;have hd200:=hS.d200;clear hR hB hTo hTx hS hs
  go_upto_region 1 with fail
  generalize w1.setCell ⟨To,0,none⟩ (.int .i64 13)=w2 at HR HB HTo HTx ⊢;clear c0 f0;have HE2:=zh (HE.out.e.below HB.out);have CT:=zh (ptake_sign HR.out HE2.out hkl 45 rfl)
  cases hs1:(sg [45] (rsK l k)).isSome with
  | true =>
   rw[hs1]at CT;have HS1:=zh (HS.out.neg hs1);clear hs1;go_wp2_with fail;refine(ksign_any ⟨#[45]⟩ _).mono ?_;rintro r ux ⟨rfl,rfl⟩;go_wp2_with fail;refine CT.out.mono ?_;rintro r w3 ⟨rfl,h3,k3,hk3⟩;have h3:RdS R [To,Tx] p c (.map (some mb)) l (k+1) d K t wv ov w3:=h3;have CW:=zh (pwait_any 5 h3 (by omega));have HB3:=zh (HB.out.trans k3.b);have HTo3:=zh (HTo.out.keep k3 (by simp));have HTx3:=zh (HTx.out.keep k3 (by simp));clear h3 k3 CT HR HB HTo HTx HE2;go_wp2_with fail;refine CW.out.mono ?_;rintro r w4 ⟨wv',ov',rfl,h4,k4⟩;have H4:=zh h4;have HRI:Hid (RdI R To Tx mb p c l w0 0 w4):=zh ⟨_,_,_,_,_,_,_,_,h4,HB3.out.trans k4.b,HTo3.out.keep k4 (by simp),HTx3.out.keep k4 (by simp),HS1.out⟩;have hk3':k+1≤l.length:=hk3;clear h4 k4 CW HB3 HTo3 HTx3 HS HS1;go_wp2_with fail
   go_step3
   exact .inl ⟨rfl,⟨_,_,_,_,_,_,_,_,_,_,_,_,_,_,_,_,_,_,_,_,_,_,_,_,_,_,_,_,_,_,_,_,_,_,_,_,_,_,_,_,_,_,_,_,_,_,_,_,_,_,_,_,_,_,_,_,_,_,_,_,_,_,rfl,HRI.out⟩,(by have e1:=H4.out.kOf;have e2:=HK0.out;show l.length-kOf R _<l.length-kOf R _;rw[e1,e2];omega)⟩
  | false =>
   rw[hs1]at CT;have HM:=zh (none_of hs1);clear hs1;go_wp2_with fail;refine(ksign_any ⟨#[45]⟩ _).mono ?_;rintro r ux ⟨rfl,rfl⟩;go_wp2_with fail;refine CT.out.mono ?_;rintro r w3 ⟨rfl,h3,k3,hk3⟩;have h3:RdS R [To,Tx] p c (.map (some mb)) l k d K t wv ov w3:=h3;have HR3:=zh h3;have HB3:=zh (HB.out.trans k3.b);have HTo3:=zh (HTo.out.keep k3 (by simp));have HTx3:=zh (HTx.out.keep k3 (by simp));have HE3:=zh (HE.out.e.below HB3.out);clear h3 k3 CT HR HB HTo HTx HE2 hk3;go_wp2_with fail;refine(knumber_any _ _).mono ?_;rintro r w4 ⟨rfl,hw⟩;have b4:Below w3.heap.size w3 w4:=by rw[hw];exact Below.alloc (Below.refl _ _) (Nat.le_refl _) _
   have IN:=number_is Tx w3 (HR3.out.zlt Tx (by simp));rw[←hw]at IN;have h4:=HR3.out.below b4;have CN:=zh (ptake_m IN (xTg Tx) s k l w4 (fun _ _ _=>rfl) (Nat.le_refl _) (HE3.out.below (b4.mono (Nat.le_of_lt HR3.out.blk.lt))).good (Blk.below HTx3.out b4) (HE3.out.below (b4.mono (Nat.le_of_lt HR3.out.blk.lt))).tk (fun a e c=>by have:=HE3.out.low a e;have:=List.mem_singleton.1 c;have:=HE.out.ot;have:=HE.out.tx;omega) (fun c=>by have:=List.mem_singleton.1 c;have:=HE.out.ot;have:=HE.out.tx;omega) h4.blk HE3.out.ok hkl);have HR4:=zh h4;have HB4:=zh (HB3.out.trans (b4.mono (Nat.le_of_lt HR3.out.blk.lt)));have HTo4:=zh (HTo3.out.below b4);clear hw b4 IN h4 HR3 HB3 HTo3 HTx3 HE3;go_wp2_with fail;refine CN.out.mono ?_;rintro r w5 ⟨b,s',k',hF,rfl,hk',hI,hbk,hw⟩;have h5:=HR4.out.cellT hbk hw (fun x c=>by have:=List.mem_singleton.1 c;subst this;simp);have HR5:=zh h5;have HB5:=zh (show Below R w0 w5 from HB4.out.trans (hw.below (fun x c=>by
    rcases List.mem_cons.1 c with c|c
    ·omega
    ·have:=List.mem_singleton.1 c;have:=HE.out.ot;have:=HE.out.tx;omega) (Nat.le_of_lt HR4.out.blk.lt)))
   have HTo5:=zh (HTo4.out.wr hw (fun c=>by
    rcases List.mem_cons.1 c with c|c
    ·have:=HE.out.ot;omega
    ·have:=List.mem_singleton.1 c;have:=HE.out.tx;omega))
   have HTx5:Hid (xI Tx s' w5):=zh hI;have HF:=zh hF;have HK':=zh hk';clear h5 hw hI hF hbk hk' CN HR4 HB4 HTo4
   cases b with
   | true =>
    have HS1:=zh (HS.out.num HE.out.e.ok HM.out HK'.out HF.out);have hkk:k<k':=by have:=HS1.out.len;rw[List.length_append,List.length_singleton]at this;obtain⟨x,e,_,_⟩:=take_true HF.out;have:=rsK_lt e;have:=rsK_inj this.2 HK'.out this.1;omega
    have c0:=Blk.c HTx5.out 0 _ rfl;have c1:=Blk.c HTx5.out 1 _ rfl;have CL:=zh (play_any (Nd.mk 0 s' [] 0 0) HR5.out (by omega));have hk'':=HK'.out;clear HF HS HM;go_wp2_with fail;refine CL.out.mono ?_;rintro r w6 ⟨ov',rfl,h6,k6⟩;have H6:=zh h6;have HRI:Hid (RdI R To Tx mb p c l w0 1 w6):=zh ⟨_,_,_,_,_,_,_,_,h6,HB5.out.trans k6.b,HTo5.out.keep k6 (by simp),HTx5.out.keep k6 (by simp),HS1.out⟩;clear h6 k6 CL c0 c1 HR5 HB5 HTo5 HTx5 HS1;go_wp2_with fail
    go_step3
    exact .inr ⟨rfl,⟨_,_,_,_,_,_,_,_,_,_,_,_,_,_,_,_,_,_,_,_,_,_,_,_,_,_,_,_,_,_,_,_,_,_,_,_,_,_,_,_,_,_,_,_,_,_,_,_,_,_,_,_,_,_,_,_,_,_,_,_,_,_,rfl,HRI.out⟩,(by have e1:=H6.out.kOf;have e2:=HK0.out;show l.length-kOf R _<l.length-kOf R _;rw[e1,e2];omega)⟩
   | false =>
    have hkk:k'=k:=rsK_inj (take_false HF.out).1 HK'.out hkl;subst hkk;have HE5:=zh (HE.out.e.below HB5.out);have c2:=HR5.out.blk.c 2 _ rfl;have CK:=zh (fun u1 hu=>ptake_known (u1:=u1) HR5.out HE5.out hkl HTo5.out (by simp) HE.out.ot (by have:=HE.out.m;have:=HR5.out.blk.lt;omega) (by have:=HE.out.m;have:=HE.out.ot;omega) (HE.out.names HB5.out) hu);have HNN:Hid (∀x r,rsK l k'=x::r→¬((parS x.2).2=0∧(parS x.2).1.1.length≤60∧(parS x.2).1.2.length≤60)):=zh (fun x r e h=>by
     have k1:decide ((parS x.2).2=0∧(parS x.2).1.1.length≤60∧(parS x.2).1.2.length≤60)=false:=((take_false HF.out).2 x r e).1;rw[decide_eq_true h]at k1
     cases k1)
    clear HF;go_wp2_with fail;refine(kknown_any none _ _ _).mono ?_;rintro r w6 ⟨rfl,hw⟩;have CK6:=zh (CK.out w6 hw);clear hw CK c2;go_wp2_with fail;refine CK6.out.mono ?_;rintro r w7 ⟨b,q',k2,hF,rfl,hk2,hT7,h7,hw7⟩;have HR7:=zh h7;have HB7:=zh (show Below R w0 w7 from HB5.out.trans (hw7.below (fun x c=>by
     rcases List.mem_cons.1 c with c|c
     ·omega
     ·have:=List.mem_singleton.1 c;have:=HE.out.ot;omega) (Nat.le_of_lt HR5.out.blk.lt)))
    have HTx7:=zh (Blk.wr HTx5.out hw7 (fun c=>by
     rcases List.mem_cons.1 c with c|c
     ·have:=HE.out.ot;have:=HE.out.tx;omega
     ·have:=List.mem_singleton.1 c;have:=HE.out.tx;omega))
    have HTo7:=zh hT7;have HF:=zh hF;have HK2:=zh hk2;have HE7:=zh (HE.out.e.below HB7.out);clear hT7 h7 hw7 hF hk2 CK6 HR5 HB5 HTo5 HTx5 HE5 HK';have co:=HTo7.out.c 0 _ rfl
    cases b with
    | true =>
     obtain⟨rfl,hlt,x,hx,hx0,hxo⟩:=kn_yes HE.out.e.ok HK2.out HF.out;have HX:=zh hx;have HX0:=zh hx0;have HXO:=zh hxo
     have hov:=Pz.op_vals hxo;have CA:=zh (tarity_any q' w7 HE7.out.good.x);clear hx hx0 hxo HF HNN HM;by_cases h4:q'≤4
     ·have har:arI q'=0:=by rcases hov with rfl|rfl|rfl|rfl|rfl|rfl|rfl|rfl<;>first|rfl|omega
      rw[har]at CA;have hq0:0≤q':=by omega
      have HQ:=zh (And.intro hq0 h4);clear har hov hq0 h4;go_wp2_with fail;refine CA.out.mono ?_;rintro r w8 ⟨rfl,b8⟩;have h8:=HR7.out.below b8;have hB8:=HB7.out.trans (b8.mono (Nat.le_of_lt HR7.out.blk.lt));have CLf:=zh (pleaf_any h8 (HE.out.e.below hB8) HK2.out (by omega) q' HQ.out.1);have co:=(HTo7.out.below b8).c 0 _ rfl;have HB8:=zh hB8;have HTo8:=zh (HTo7.out.below b8);have HTx8:=zh (Blk.below HTx7.out b8);clear h8 hB8 b8 CA HR7 HB7 HTo7 HTx7 HE7;go_wp2_with fail;refine CLf.out.mono ?_;rintro r w9 (⟨k9,t9,wv9,ov9,e1,e2,rfl,h9,kp9⟩|⟨k9,wv9,ov9,e1,e2,rfl,h9,kp9⟩)
      ·obtain⟨hS9,hlt9⟩:=HS.out.leaf HE.out.e.ok HX.out HX0.out HXO.out HQ.out e2 e1;have H9:=zh h9;have HRI:Hid (RdI R To Tx mb p c l w0 1 w9):=zh ⟨_,_,_,_,_,_,_,_,h9,HB8.out.trans kp9.b,HTo8.out.keep kp9 (by simp),HTx8.out.keep kp9 (by simp),hS9⟩;clear e1 h9 kp9 hS9 CLf co HB8 HTo8 HTx8 HS HX HX0 HXO;go_wp2_with fail
       go_step3
       exact .inr ⟨rfl,⟨_,_,_,_,_,_,_,_,_,_,_,_,_,_,_,_,_,_,_,_,_,_,_,_,_,_,_,_,_,_,_,_,_,_,_,_,_,_,_,_,_,_,_,_,_,_,_,_,_,_,_,_,_,_,_,_,_,_,_,_,_,_,rfl,HRI.out⟩,(by have e1:=H9.out.kOf;have e2:=HK0.out;show l.length-kOf R _<l.length-kOf R _;rw[e1,e2];omega)⟩
      ·have HEnd:Hid (RdEnd R mb p c l w0 (.returned (.int .i64 110)) w9):=zh ⟨_,_,_,_,_,_,_,rfl,h9.less (fun _ c=>by cases c),HB8.out.trans kp9.b,e2,by omega,HS.out.sz,HS.out.leafBad HX.out HX0.out HXO.out HQ.out.2 e1 _⟩;clear e1 h9 kp9 CLf co HB8 HTo8 HTx8 HS HX HX0 HXO;go_wp2_with fail;simp only[ExitTwo];go_ret;exact HEnd.out
     ·have h10:q'=10∨q'=11∨q'=12:=by omega
      obtain⟨a,ha1,ha2,ha3,ha4,ha5⟩:=call_ar h10;have hne:(arI q'==0)=false:=by rcases h10 with rfl|rfl|rfl<;>rfl
      have HA:=zh (And.intro ha1 ha3);have H10:=zh h10;have HA2:=zh (And.intro ha2 (And.intro ha4 ha5));clear hov h4 ha1 ha2 ha3 ha4 ha5 h10;have CB0:=zh (fun w8 (b8:Below w7.heap.size w7 w8)=>pbegin_any q' a (HR7.out.below b8) (HE7.out.below (b8.mono (Nat.le_of_lt HR7.out.blk.lt))) HK2.out hd200 (by omega) (.inl HA2.out.1) HA2.out.2);generalize arI q'=AR at *;go_wp2_with fail;refine CA.out.mono ?_;rintro r w8 ⟨rfl,b8⟩;have CB:=zh (CB0.out w8 b8);have co:=(HTo7.out.below b8).c 0 _ rfl;have HB8:=zh (HB7.out.trans (b8.mono (Nat.le_of_lt HR7.out.blk.lt)));have HTo8:=zh (HTo7.out.below b8);have HTx8:=zh (Blk.below HTx7.out b8);clear b8 CA CB0 HR7 HB7 HTo7 HTx7 HE7;go_wp2_with fail;refine CB.out.mono ?_;rintro r w9 ⟨wv9,ov9,(⟨rfl,hd,hs,h9⟩|⟨rfl,hs,h9⟩|⟨rfl,hd,hs,h9⟩),kp9⟩
      ·have H9:=zh h9;have hlt2:=(sg_rs hs).2.2;have HRI:Hid (RdI R To Tx mb p c l w0 0 w9):=zh ⟨_,_,_,_,_,_,_,_,h9,HB8.out.trans kp9.b,HTo8.out.keep kp9 (by simp),HTx8.out.keep kp9 (by simp),HS.out.call HX.out HX0.out HXO.out H10.out HA.out.1 HA.out.2 hd hs⟩;clear hs h9 kp9 CB co HB8 HTo8 HTx8 HS HX HX0 HXO hd;go_wp2_with fail
       go_step3
       exact .inl ⟨rfl,⟨_,_,_,_,_,_,_,_,_,_,_,_,_,_,_,_,_,_,_,_,_,_,_,_,_,_,_,_,_,_,_,_,_,_,_,_,_,_,_,_,_,_,_,_,_,_,_,_,_,_,_,_,_,_,_,_,_,_,_,_,_,_,rfl,HRI.out⟩,(by have e1:=H9.out.kOf;have e2:=HK0.out;show l.length-kOf R _<l.length-kOf R _;rw[e1,e2];omega)⟩
      ·have HEnd:Hid (RdEnd R mb p c l w0 (.returned (.int .i64 110)) w9):=zh ⟨_,_,_,_,_,_,_,rfl,h9.less (fun _ c=>by cases c),HB8.out.trans kp9.b,HK2.out,by omega,HS.out.sz,HS.out.callNo HX.out HX0.out HXO.out H10.out HA.out.1 hs _⟩;clear hs h9 kp9 CB co HB8 HTo8 HTx8 HS HX HX0 HXO;go_wp2_with fail;simp only[ExitTwo];go_ret;exact HEnd.out
      ·subst hd;have HEnd:Hid (RdEnd R mb p c l w0 (.returned (.int .i64 111)) w9):=zh ⟨_,_,_,_,_,_,_,rfl,h9.less (fun _ c=>by cases c),HB8.out.trans kp9.b,HK2.out,by omega,HS.out.sz,HS.out.callDeep HX.out HX0.out HXO.out H10.out HA.out.1 hs _⟩;clear hs h9 kp9 CB co HB8 HTo8 HTx8 HS HX HX0 HXO;go_wp2_with fail;simp only[ExitTwo];go_ret;exact HEnd.out
    | false =>
     obtain⟨hr2,hk0⟩:=take_false HF.out;have hkk:=rsK_inj hr2 HK2.out hkl;subst hkk;have HKN:=zh (fun x r (e:rsK l k2=x::r)=>(show opName x.2=none from none_of (hk0 x r e).1));have hq13:q'=13∨True:=.inr trivial;have HQ13:Hid (q'=13):=zh (by
      cases e:rsK l k2 with
      | nil =>
       have k1:=HF.out;rw[e]at k1;exact(Prod.mk.inj (Prod.mk.inj k1).2).1.symm
      | cons x r =>
       have k1:q'=(opName x.2).getD 13:=(hk0 x r e).2;rw[HKN.out x r e]at k1;exact k1)
     have hq:=HQ13.out;subst hq;have CB:=zh (pbegin_any 13 0 HR7.out HE7.out hkl hd200 (by omega) (.inr ⟨rfl,by decide⟩) (by decide));have HB8:=HB7;have HTo8:=HTo7;have HTx8:=HTx7
     clear hr2 hk0 HF hq13 HR7 HE7;go_wp2_with fail;refine CB.out.mono ?_;rintro r w9 ⟨wv9,ov9,(⟨rfl,hd,hs,h9⟩|⟨rfl,hs,h9⟩|⟨rfl,hd,hs,h9⟩),kp9⟩
     ·have H9:=zh h9;have hlt2:=(sg_rs hs).2.2;have HRI:Hid (RdI R To Tx mb p c l w0 0 w9):=zh ⟨_,_,_,_,_,_,_,_,h9,HB8.out.trans kp9.b,HTo8.out.keep kp9 (by simp),HTx8.out.keep kp9 (by simp),HS.out.grp hd hs⟩;clear hs h9 kp9 CB co HB8 HTo8 HTx8 HS hd HB7 HTo7 HTx7;go_wp2_with fail
      go_step3
      exact .inl ⟨rfl,⟨_,_,_,_,_,_,_,_,_,_,_,_,_,_,_,_,_,_,_,_,_,_,_,_,_,_,_,_,_,_,_,_,_,_,_,_,_,_,_,_,_,_,_,_,_,_,_,_,_,_,_,_,_,_,_,_,_,_,_,_,_,_,rfl,HRI.out⟩,(by have e1:=H9.out.kOf;have e2:=HK0.out;show l.length-kOf R _<l.length-kOf R _;rw[e1,e2];omega)⟩
     ·have HEnd:Hid (RdEnd R mb p c l w0 (.returned (.int .i64 110)) w9):=zh ⟨_,_,_,_,_,_,_,rfl,h9.less (fun _ c=>by cases c),HB8.out.trans kp9.b,hkl,by omega,HS.out.sz,HS.out.noOne HM.out HNN.out HKN.out hs _⟩;clear hs h9 kp9 CB co HB8 HTo8 HTx8 HS HB7 HTo7 HTx7;go_wp2_with fail;simp only[ExitTwo];go_ret;exact HEnd.out
     ·subst hd;have HEnd:Hid (RdEnd R mb p c l w0 (.returned (.int .i64 111)) w9):=zh ⟨_,_,_,_,_,_,_,rfl,h9.less (fun _ c=>by cases c),HB8.out.trans kp9.b,hkl,by omega,HS.out.sz,HS.out.grpDeep hs _⟩;clear hs h9 kp9 CB co HB8 HTo8 HTx8 HS HB7 HTo7 HTx7;go_wp2_with fail;simp only[ExitTwo];go_ret;exact HEnd.out
 ·clear HH HTO HTX;rintro a' w1 ⟨u1,u2,u5,u6,u7,u8,u9,u10,u11,u12,u13,u14,u15,u16,u17,u18,u19,u20,u21,u22,u23,u24,u25,u26,u27,u28,u29,u30,u31,u32,u33,u34,u35,u36,u37,u38,u39,u40,u41,u42,u43,u44,u45,u46,u47,u48,u49,u50,u51,u52,u53,u54,u55,u56,u57,u58,u59,u60,u61,u62,u63,u64,rfl,k,d,K,t,wv,ov,q,s,hR,hB,hTo,hTx,hS⟩;have HK0:=zh hR.kOf;have HR:=zh hR;have HB:=zh hB;have HTo:=zh hTo;have HTx:=zh hTx;have HS:=zh hS
  have hlen:=hS.len;have hkl:=hS.kl;have hl6:=HE.out.e.ok.1;have hd200:=hS.d200;clear hR hB hTo hTx hS;go_wp2_with fail;refine(kinfix_any _ _).mono ?_;rintro r w2 ⟨rfl,hw⟩;have b2:Below w1.heap.size w1 w2:=by rw[hw];exact Below.alloc (Below.refl _ _) (Nat.le_refl _) _
  have IN:=infix_is To w1 (HR.out.zlt To (by simp));rw[←hw]at IN;have h2:=HR.out.below b2;have hB2:=HB.out.trans (b2.mono (Nat.le_of_lt HR.out.blk.lt));have hE2:=HE.out.e.below hB2;have CN:=zh (ptake_m IN (oTg To) q k l w2 (fun _ _ _=>rfl) (Nat.le_refl _) hE2.good (Blk.below HTo.out b2) hE2.tk (fun a e c=>by have:=hE2.low a e;have:=List.mem_singleton.1 c;have:=HE.out.ot;omega) (fun c=>by have:=List.mem_singleton.1 c;have:=HE.out.ot;omega) h2.blk hE2.ok hkl);have HR2:=zh h2;have HB2:=zh hB2;have HTx2:=zh (Blk.below HTx.out b2);clear hw b2 IN h2 hB2 hE2 HR HB HTo HTx;go_wp2_with fail;refine CN.out.mono ?_;rintro r w3 ⟨b,q',k',hF,rfl,hk',hI,hbk,hw⟩;have h3:=HR2.out.cellT hbk hw (fun x c=>by have:=List.mem_singleton.1 c;subst this;simp);have hB3:Below R w0 w3:=HB2.out.trans (hw.below (fun x c=>by
   rcases List.mem_cons.1 c with c|c
   ·omega
   ·have:=List.mem_singleton.1 c;have:=HE.out.ot;omega) (Nat.le_of_lt HR2.out.blk.lt))
  have HTx3:=zh (Blk.wr HTx2.out hw (fun c=>by
   rcases List.mem_cons.1 c with c|c
   ·have:=HE.out.ot;have:=HE.out.tx;omega
   ·have:=List.mem_singleton.1 c;have:=HE.out.tx;omega))
  have HTo3:Hid (Blk To [.int .i64 q'] w3):=zh hI;have HR3:=zh h3;have HB3:=zh hB3;have HE3:=zh (HE.out.e.below hB3);have HF:=zh hF;have HK':=zh hk';clear h3 hB3 hI hF hbk hw hk' CN HR2 HB2 HTx2
  cases b with
  | true =>
   obtain⟨rfl,hlt,x,hx,hq,ho⟩:=inf_take HE.out.e.ok HK'.out HF.out;have HS1:=zh (HS.out.inf hlt hx hq ho);obtain⟨m,hm,hm2,htg⟩:=tg_at (o:=q') (by omega) (by omega);subst hm;have co:=HTo3.out.c 0 _ rfl;have ct:=HE3.out.good.tg m _ htg;have CSt:=zh (psettle_any (tgt (m:Int)) HR3.out HE3.out.good (fun V hV=>HE3.out.gr V hV.b) HS.out.ops (by omega));clear HF hx ho htg;go_wp2_with fail;refine CSt.out.mono ?_;rintro r w4 ⟨wv4,ov4,rfl,h4,k4⟩;have co:=(HTo3.out.keep k4 (by simp)).c 0 _ rfl;have CW:=zh (pwait_any (m:Int) h4 (by have hx1:=HS1.out.len;have hx2:=HS1.out.kl;rw[List.length_cons]at hx1;omega));have HB4:=zh (HB3.out.trans k4.b);have HTo4:=zh (HTo3.out.keep k4 (by simp));have HTx4:=zh (Blk.keep HTx3.out k4 (by simp));clear h4 k4 CSt ct HR3 HB3 HTo3 HTx3 HE3;go_wp2_with fail;refine CW.out.mono ?_;rintro r w5 ⟨wv5,ov5,rfl,h5,k5⟩;have H5:=zh h5;have HRI:Hid (RdI R To Tx mb p c l w0 0 w5):=zh ⟨_,_,_,_,_,_,_,_,h5,HB4.out.trans k5.b,HTo4.out.keep k5 (by simp),Blk.keep HTx4.out k5 (by simp),HS1.out⟩;clear h5 k5 CW co HB4 HTo4 HTx4 HS HS1;go_wp2_with fail
   go_step3
   exact .inl ⟨rfl,⟨_,_,_,_,_,_,_,_,_,_,_,_,_,_,_,_,_,_,_,_,_,_,_,_,_,_,_,_,_,_,_,_,_,_,_,_,_,_,_,_,_,_,_,_,_,_,_,_,_,_,_,_,_,_,_,_,_,_,_,_,_,_,rfl,HRI.out⟩,(by have e1:=H5.out.kOf;have e2:=HK0.out;show l.length-kOf R _<l.length-kOf R _;rw[e1,e2];omega)⟩
  | false =>
   have hkk:k'=k:=rsK_inj (take_false HF.out).1 HK'.out hkl;subst hkk;obtain⟨hS2,hL⟩:=HS.out.sum (inf_none HE.out.e.ok HF.out);have HS2:=zh hS2;have HL:=zh hL
   have CSt:=zh (psettle_any 1 HR3.out HE3.out.good (fun V hV=>HE3.out.gr V hV.b) HS.out.ops (by omega));clear HF hS2 hL HS;generalize settleF 1 K t=KT at *;obtain⟨K2,t2⟩:=KT;dsimp only at HS2 HL CSt;have hlen2:=HS2.out.len;go_wp2_with fail;refine CSt.out.mono ?_;rintro r w4 ⟨wv4,ov4,rfl,h4,k4⟩;have HR4:=zh h4;have HB4:=zh (HB3.out.trans k4.b);have HTo4:=zh (HTo3.out.keep k4 (by simp));have HTx4:=zh (Blk.keep HTx3.out k4 (by simp));have CD:=zh (pdone_any h4);clear h4 k4 CSt HR3 HB3 HTo3 HTx3 HE3;go_wp2_with fail;refine CD.out.mono ?_;rintro r w5 ⟨rfl,b5⟩;have h5:=HR4.out.below b5;have HB5:=zh (HB4.out.trans (b5.mono (Nat.le_of_lt HR4.out.blk.lt)));have HTo5:=zh (HTo4.out.below b5);have HTx5:=zh (Blk.below HTx4.out b5);have HR5:=zh h5;clear b5 h5 CD HR4 HB4 HTo4 HTx4;by_cases hdn:d=0∧k'=l.length
   ·have hdd:decide (d=0∧k'=l.length)=true:=decide_eq_true hdn;have HEnd:Hid (RdEnd R mb p c l w0 (.returned (.int .i64 0)) w5):=zh ⟨_,_,_,_,_,_,_,rfl,HR5.out.less (fun _ c=>by cases c),HB5.out,hkl,by omega,HS2.out.sz,HS2.out.done HL.out hdn.1 hdn.2⟩;clear hdn;go_wp2_with fail;simp only[ExitTwo];go_ret;exact HEnd.out
   ·have hdd:decide (d=0∧k'=l.length)=false:=decide_eq_false hdn;have HDN:=zh hdn;have CP:=zh (ppart_any HR5.out (HE.out.e.below HB5.out) hkl (by omega) HS2.out.cm);clear hdn;go_wp2_with fail;refine CP.out.mono ?_;rintro r w6 ⟨wv6,ov6,(⟨rfl,op,cm,K1,hK,hs,h6⟩|⟨rfl,hnp,h6⟩),k6⟩
    ·have H6:=zh h6;have hlt2:=(sg_rs hs).2.2;have HRI:Hid (RdI R To Tx mb p c l w0 0 w6):=zh ⟨_,_,_,_,_,_,_,_,h6,HB5.out.trans k6.b,HTo5.out.keep k6 (by simp),Blk.keep HTx5.out k6 (by simp),HS2.out.part HL.out hK hs⟩;clear hs h6 k6 CP HB5 HTo5 HTx5 HS2 HR5 hK;go_wp2_with fail
     go_step3
     exact .inl ⟨rfl,⟨_,_,_,_,_,_,_,_,_,_,_,_,_,_,_,_,_,_,_,_,_,_,_,_,_,_,_,_,_,_,_,_,_,_,_,_,_,_,_,_,_,_,_,_,_,_,_,_,_,_,_,_,_,_,_,_,_,_,_,_,_,_,rfl,HRI.out⟩,(by have e1:=H6.out.kOf;have e2:=HK0.out;show l.length-kOf R _<l.length-kOf R _;rw[e1,e2];omega)⟩
    ·have HR6:=zh h6;have HB6:=zh (HB5.out.trans k6.b);have HTo6:=zh (HTo5.out.keep k6 (by simp));have HTx6:=zh (Blk.keep HTx5.out k6 (by simp));have HNP:=zh hnp;have CE:=zh (pend_any h6 (HE.out.e.below HB6.out) hkl (by omega) (by omega) (by omega) (HS2.out.pos HL.out));clear h6 k6 hnp CP HR5 HB5 HTo5 HTx5;go_wp2_with fail;refine CE.out.mono ?_;rintro r w7 ⟨wv7,ov7,(⟨rfl,op,K1,hK,hs,h7⟩|⟨rfl,hne,h7⟩),k7⟩
     ·have H7:=zh h7;have hlt2:=(sg_rs hs).2.2;have HRI:Hid (RdI R To Tx mb p c l w0 1 w7):=zh ⟨_,_,_,_,_,_,_,_,h7,HB6.out.trans k7.b,HTo6.out.keep k7 (by simp),Blk.keep HTx6.out k7 (by simp),HS2.out.close HL.out hK hs⟩;clear hs h7 k7 CE HB6 HTo6 HTx6 HS2 HR6 hK HNP;go_wp2_with fail
      go_step3
      exact .inr ⟨rfl,⟨_,_,_,_,_,_,_,_,_,_,_,_,_,_,_,_,_,_,_,_,_,_,_,_,_,_,_,_,_,_,_,_,_,_,_,_,_,_,_,_,_,_,_,_,_,_,_,_,_,_,_,_,_,_,_,_,_,_,_,_,_,_,rfl,HRI.out⟩,(by have e1:=H7.out.kOf;have e2:=HK0.out;show l.length-kOf R _<l.length-kOf R _;rw[e1,e2];omega)⟩
     ·have HEnd:Hid (RdEnd R mb p c l w0 (.returned (.int .i64 110)) w7):=zh ⟨_,_,_,_,_,_,_,rfl,h7.less (fun _ c=>by cases c),HB6.out.trans k7.b,hkl,by omega,HS2.out.sz,HS2.out.stuck HL.out HDN.out HNP.out hne _⟩;clear h7 k7 CE HB6 HTo6 HTx6 HS2 HR6 HNP hne;go_wp2_with fail;simp only[ExitTwo];go_ret;exact HEnd.out
 ·intro HP;have HP:=zh HP;have h1:=HH.out.alloc (.cells #[.int .i64 0] 3);have b1:Below w0.heap.size w0 (w0.alloc (.cells #[.int .i64 0] 3)):=Below.alloc (Below.refl _ _) (Nat.le_refl _) _;have s1:(w0.alloc (.cells #[.int .i64 0] 3)).heap.size=w0.heap.size+1:=by simp
  have h2:=h1.alloc (.cells #[.string ⟨#[]⟩,.string ⟨#[]⟩] 37);have b2:Below (w0.alloc (.cells #[.int .i64 0] 3)).heap.size (w0.alloc (.cells #[.int .i64 0] 3)) ((w0.alloc (.cells #[.int .i64 0] 3)).alloc (.cells #[.string ⟨#[]⟩,.string ⟨#[]⟩] 37)):=Below.alloc (Below.refl _ _) (Nat.le_refl _) _;have n1:=(blk_new w0 #[.int .i64 0] 3).below b2;have n2:=blk_new (w0.alloc (.cells #[.int .i64 0] 3)) #[.string ⟨#[]⟩,.string ⟨#[]⟩] 37;rw[s1]at h2 n2;have hh:RdI R To Tx mb p c l w0 0 ((w0.alloc (.cells #[.int .i64 0] 3)).alloc (.cells #[.string ⟨#[]⟩,.string ⟨#[]⟩] 37)):=by
   rw[HTO.out,HTX.out];exact⟨0,0,[],[],_,_,0,([],[]),h2.less (fun z c=>by simp at c ⊢;omega),(Below.more b1 b2).mono (Nat.le_of_lt HH.out.blk.lt),n1,n2,PSt.start⟩
  have HI:=zh hh;clear h1 b1 s1 h2 b2 n1 n2 hh HH HE
  go_upto_region 3 with fail
  rename_i K0 hK0
  refine wp_label ?_;show K0 _ _;have e1:=HTO.out;have e2:=HTX.out;subst e1 e2;exact hK0 _ _ (HP.out _ _ ⟨_,_,_,_,_,_,_,_,_,_,_,_,_,_,_,_,_,_,_,_,_,_,_,_,_,_,_,_,_,_,_,_,_,_,_,_,_,_,_,_,_,_,_,_,_,_,_,_,_,_,_,_,_,_,_,_,_,_,_,_,_,_,rfl,HI.out⟩)
end Go.Proofs.YtmllklfjngapiaaGreatDoor
