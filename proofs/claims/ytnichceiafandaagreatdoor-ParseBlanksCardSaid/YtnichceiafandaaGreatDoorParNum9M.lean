/- Own work. -/
import Derived.Test.YtnichceiafandaaGreatDoorAllPaP
import Derived.Test.YtnichceiafandaaGreatDoorAllWdEM
import Derived.Test.YtnichceiafandaaGreatDoorParNum6M
set_option linter.unusedSimpArgs false
set_option linter.unusedVariables false
set_option maxHeartbeats 4000000
set_option maxRecDepth 100000
namespace Go.Proofs.YtnichceiafandaaGreatDoor
open Go.RowKit
open Wd (Tk okT ktT)
open Tm (Nd plainN arI arN)
open Pz (Wt tgt settleF)
open Pz (PsIs Par Rs endR outR placeT)
open Tm (checkT)
def GivePs(w:World)(s:List UInt8)(r:Ending)(w':World):Prop :=
 ∃ (R:List Nd×Int×Nat×Nat) (q:Option Addr) (cq:Nat),PsIs s R∧r=.returned (.tuple #[.slice q R.1.length cq,.int .i64 R.2.1,.int .i64 (R.2.2.1:Int),.int .i64 (R.2.2.2:Int)])∧R.1.length≤cq∧Nds w' q R.1∧(∀x∈R.1,SzN x)∧Below w.heap.size w w'
def FewN(s:List UInt8):Prop:=∀ts a b,Wd.lexD s=(ts,0,a,b)→∀t,Par (.bin true) 0 (.ok (ts.map ktT) []) (.ok [] t)→t.length≤2000
theorem rsK_0(l:List Tk):rsK l 0=l.map ktT:=by unfold rsK;rw[List.drop_zero]
theorem kl_le{l:List UInt8}{kd m:Nat}(h:Wd.kl l=some (kd,m)):m≤100:=by
 cases l with
 | nil=>cases h
 | cons x r =>
  rw[Wd.kl_cons]at h;split at h
  ·split at h
   ·have:=(Prod.mk.inj (Option.some.inj h)).2;omega
   ·cases h
  ·split at h
   ·split at h
    ·have:=(Prod.mk.inj (Option.some.inj h)).2;omega
    ·cases h
   ·split at h
    ·have:=(Prod.mk.inj (Option.some.inj h)).2;omega
    ·cases h
theorem lex_bd:∀ (l:List UInt8) (ln c:Nat),(Wd.lexAt l ln c).1.length≤l.length∧∀t∈(Wd.lexAt l ln c).1,t.text.length≤100∧t.col≤c+l.length:=by
 refine Wd.lex_ind (fun ln c=>?_) (fun r ih ln c=>?_) (fun r ih ln c=>?_) (fun x r e1 e2 e ln c=>?_) (fun x r kd m e1 e2 e ih ln c=>?_)
 ·rw[Wd.lex_nil];exact⟨Nat.le_refl _,fun _ h=>absurd h (by simp)⟩
 ·rw[Wd.lex_blank];obtain⟨a,b⟩:=ih ln (c+1);rw[List.length_cons];exact⟨by omega,fun t ht=>⟨(b t ht).1,by have:=(b t ht).2;omega⟩⟩
 ·rw[Wd.lex_line];obtain⟨a,b⟩:=ih (ln+1) 1;rw[List.length_cons];exact⟨by omega,fun t ht=>⟨(b t ht).1,by have:=(b t ht).2;omega⟩⟩
 ·rw[Wd.lex_bad ln c e1 e2 e];exact⟨Nat.zero_le _,fun _ h=>absurd h (by simp)⟩
 ·rw[Wd.lex_tok ln c e1 e2 e];obtain⟨a,b⟩:=ih ln (c+m);have hm:=Wd.kl_len e;have hm2:=kl_le e;rw[List.length_drop]at a b;refine⟨?_,fun t ht=>?_⟩
  ·show (Wd.lexAt ((x::r).drop m) ln (c+m)).1.length+1≤(x::r).length;omega
  ·rcases List.mem_cons.1 ht with rfl|ht
   ·refine⟨?_,Nat.le_add_right _ _⟩;show ((x::r).take m).length≤100;rw[List.length_take];omega
   ·exact⟨(b t ht).1,by have:=(b t ht).2;omega⟩
theorem lexD_len{s:List UInt8}{ts:List Tk}{e:Int}{a b:Nat}(h:Wd.lexD s=(ts,e,a,b)):ts.length≤s.length∧∀t∈ts,okT (ktT t)∧t.text.length≤100∧t.col≤s.length+1:=by
 unfold Wd.lexD at h;split at h
 ·obtain rfl:=(Prod.mk.inj h).1;exact⟨Nat.zero_le _,fun _ h=>absurd h (by simp)⟩
 ·split at h
  ·obtain rfl:=(Prod.mk.inj h).1;obtain⟨k1,k2⟩:=lex_bd s 1 1;exact⟨k1,fun t ht=>⟨Wd.lex_ok s 1 1 t ht,(k2 t ht).1,by have:=(k2 t ht).2;omega⟩⟩
  ·obtain rfl:=(Prod.mk.inj h).1;exact⟨Nat.zero_le _,fun _ h=>absurd h (by simp)⟩
variable {R : Nat} {Z : List Nat} {p : Option Addr} {c : Nat} {mv wv ov : Value} {l : List Tk} {k d : Nat} {K : List Wt} {t : List Nd}
theorem pplace_any{w:World}(h:RdS R Z p c mv l k d K t wv ov w)(E:PEn R p l w)(hk:k≤l.length)(hcol:∀t∈l,t.col≤1000000):Calls Tryz.prog 21 #[.pointer (some ⟨R,0,none⟩)] w (GiveNN w (placeT l k)):=by
 cases hx:l[k]? with
 | some t0=>exact pplace_at h E hx
 | none =>
  cases hy:l[k-1]? with
  | some t0=>exact pplace_end h E hx hk hy (hcol t0 (List.mem_of_getElem? hy))
  | none =>
   have h1:=List.getElem?_eq_none_iff.1 hx;have h2:=List.getElem?_eq_none_iff.1 hy;obtain rfl:l=[]:=List.length_eq_zero_iff.1 (by omega);obtain rfl:k=0:=by simp at hk;exact hk
   exact pplace_nil h
theorem own_zero{α:Type}{enc:α→List Value}{kk:Nat}{e:TypeId}{B:Nat}{w:World}:OwnG enc kk e B w (.slice none 0 0) []:=own_nil w
theorem pparse_any(s:List UInt8)(w:World)(hs:s.length≤20000)(hg:GoodP w)(hf:FewN s):Calls Tryz.prog 10 #[.string ⟨s.toArray⟩] w (GivePs w s):=by
 have cl:=wlex2_any ⟨s.toArray⟩ w (by show s.toArray.size≤20000;rw[List.size_toArray];exact hs) hg.l;rw[show (⟨s.toArray⟩:ByteArray).data.toList=s from rfl]at cl;obtain⟨⟨ts,er,la,lb⟩,hL⟩:∃L,Wd.lexD s=L:=⟨_,rfl⟩;rw[hL]at cl;have HL:=Lib.hid hL;have HF:=Lib.hid hf;have HG:=Lib.hid hg;have HLN:=Lib.hid (lexD_len hL);have CL:=Lib.hid cl;clear cl hL hf hg;by_cases he:er=0
 ·subst he;go_enter Tryz.func10,Tryz.ntmps10;go_wp2_with fail;refine CL.out.mono ?_;rintro r w1 ⟨⟨q,cq,rfl,hcq,hT,hq⟩,b1⟩;dsimp only at hT hcq;have HT:=Lib.hid hT;have HQ:=Lib.hid hq;have HB1:=Lib.hid b1;clear hT b1 CL hq;go_wp2_with fail;refine(pnames_any _).mono ?_;rintro r w2 ⟨mb,rfl,hmb,hN,b2⟩;have hR:=blk_new w2 #[.slice q ts.length cq,.int .i64 0,.map (some mb),.slice none 0 0,.int .i64 0,.slice none 0 0] 51;have b3:Below w2.heap.size w2 (w2.alloc (.cells #[.slice q ts.length cq,.int .i64 0,.map (some mb),.slice none 0 0,.int .i64 0,.slice none 0 0] 51)):=Below.alloc (Below.refl _ _) (Nat.le_refl _) _;have HB3:=Lib.hid (Below.more (Below.more HB1.out b2) b3);have HT3:=Lib.hid ((HT.out.below b2).below b3);have hlow:∀a,q=some a→a.block<w2.heap.size:=fun a e=>Nat.lt_of_lt_of_le (HQ.out a e) b2.size;have HR0:Hid (RdS w2.heap.size [] q cq (.map (some mb)) ts 0 0 [] [] (.slice none 0 0) (.slice none 0 0) (w2.alloc (.cells #[.slice q ts.length cq,.int .i64 0,.map (some mb),.slice none 0 0,.int .i64 0,.slice none 0 0] 51))):=Lib.hid ⟨hR,own_zero,own_zero,(fun g e=>by cases e),(fun g e=>by cases e),(fun z c=>by cases c),(fun c=>by cases c)⟩;have HG2:=Lib.hid ((HG.out.below HB1.out).below b2);have HN3:Hid (NamesM mb (w2.alloc (.cells #[.slice q ts.length cq,.int .i64 0,.map (some mb),.slice none 0 0,.int .i64 0,.slice none 0 0] 51))):=Lib.hid (World.ownsMap.alloc hN _);have HMB:=Lib.hid hmb;have HLow:=Lib.hid hlow;have hR0:w2.heap.size<(w2.alloc (.cells #[.slice q ts.length cq,.int .i64 0,.map (some mb),.slice none 0 0,.int .i64 0,.slice none 0 0] 51)).heap.size:=by simp
  have HRL:=Lib.hid hR0;have HB23:=Lib.hid b3;have HB12:=Lib.hid b2;clear hR b2 b3 hN hmb hlow hR0
  go_upto_region 5 with fail
  obtain⟨W,hW⟩:∃W,w2.alloc (.cells #[.slice q ts.length cq,.int .i64 0,.map (some mb),.slice none 0 0,.int .i64 0,.slice none 0 0] 51)=W:=⟨_,rfl⟩;obtain⟨R,hRe⟩:∃R,R=w2.heap.size:=⟨_,rfl⟩;rw[hW]at HB3 HT3 HR0 HN3 HRL HB23 ⊢;rw[←hRe]at HR0 HRL HMB HLow HB23 ⊢;have HRW:=Lib.hid (show w.heap.size≤R by rw[hRe];exact Nat.le_trans HB1.out.size (show w1.heap.size≤w2.heap.size from HB12.out.size));have HE:Hid (PEn R q ts W):=Lib.hid ⟨HT3.out,⟨by have:=HLN.out.1;omega,fun t ht=>⟨(HLN.out.2 t ht).1,(HLN.out.2 t ht).2.1⟩⟩,HLow.out,by rw[hRe]at HB23;exact HG2.out.below HB23.out,fun V hV=>HG2.out.below (by rw[hRe]at HB23 hV;exact HB23.out.trans hV)⟩;clear hW hRe;have CR:=Lib.hid (pread_any HR0.out HE.out HN3.out HMB.out);go_wp2_with fail;refine CR.out.mono ?_;rintro r w4 ⟨k,d,K,t,wv,ov,e,rfl,h4,hb4,hk4,ht4,hz4,hfin⟩;have H4:=Lib.hid h4;have HB4:=Lib.hid (HB3.out.trans (hb4.mono HRW.out));have HE4:=Lib.hid (HE.out.below hb4);have HZ4:=Lib.hid hz4;clear h4 hb4 CR HR0 HN3 HB3 HT3 HMB hz4;rcases hfin with ⟨rfl,hpar⟩|⟨hne,y,hpar,hend⟩
  ·have hpar2:=hpar;rw[rsK_0]at hpar2;have HFew:=Lib.hid (HF.out ts la lb HL.out t hpar2);have HPs:Hid (∀R2,R2=(if checkT t=0 then (t,(0:Int),0,0) else ([],100,1,1))→PsIs s R2):=Lib.hid (fun R2 e=>⟨ts,0,la,lb,HL.out,.inr ⟨rfl,_,hpar2,e⟩⟩);obtain⟨qo,co,hov,hco,hro,_⟩:=ownG_rows (enc:=encD) (k:=6) (fun _=>rfl) H4.out.own2;have c5:=H4.out.blk.c 5 _ rfl;subst hov;have CC:=Lib.hid (tcheck_any qo co t w4 HFew.out HZ4.out HE4.out.good.x hro);have HRO:=Lib.hid hro;have HCO:=Lib.hid hco;clear hpar hpar2 hro hco
   cases hc:decide (checkT t=0) with
   | true =>
    have hc0:checkT t=0:=of_decide_eq_true hc;have hp:=HPs.out _ rfl;rw[if_pos hc0]at hp;have HP:=Lib.hid hp;rw[hc0]at CC;clear hc hc0 hp HPs;go_wp2_with fail;refine CC.out.mono ?_;rintro r w5 ⟨rfl,b5⟩;have c5:=(H4.out.below b5).blk.c 5 _ rfl;have HB5:=Lib.hid (HB4.out.trans (b5.mono (Nat.le_trans HRW.out (Nat.le_of_lt H4.out.blk.lt))));have HR5:=Lib.hid (HRO.out.below b5);clear b5 CC H4 HB4 HRO;go_wp2_with fail;refine bodyPost_end (v:=.tuple #[.slice qo t.length co,.int .i64 0,.int .i64 0,.int .i64 0]) (by simp[results,Tryz.results10,go_sem]) rfl ?_;exact⟨(t,0,0,0),qo,co,HP.out,rfl,HCO.out,HR5.out,HZ4.out,HB5.out⟩
   | false =>
    have hc0:¬checkT t=0:=of_decide_eq_false hc;have hp:=HPs.out _ rfl;rw[if_neg hc0]at hp;have HP:=Lib.hid hp;have hcb:(checkT t==0)=false:=beq_false_of_ne hc0;generalize checkT t=X at *;clear hc hp HPs;go_wp2_with fail;refine CC.out.mono ?_;rintro r w5 ⟨rfl,b5⟩;have HB5:=Lib.hid (HB4.out.trans (b5.mono (Nat.le_trans HRW.out (Nat.le_of_lt H4.out.blk.lt))));clear b5 CC H4 HB4 HRO c5;go_wp2_with fail;refine bodyPost_ret (v:=.tuple #[.slice none 0 0,.int .i64 100,.int .i64 1,.int .i64 1]) (by simp[results,Tryz.results10,go_sem]) rfl ?_;exact⟨([],100,1,1),none,0,HP.out,rfl,Nat.le_refl _,RowsG.nil _ _,fun x h=>absurd h (by simp),HB5.out⟩
  ·have hpar2:=hpar;rw[rsK_0]at hpar2;have hp:PsIs s ([],e,(placeT ts k).1,(placeT ts k).2):=⟨ts,0,la,lb,HL.out,.inr ⟨rfl,y,hpar2,by
    rw[hend];show _=([],e,(placeT ts (ts.length-(rsK ts k).length)).1,(placeT ts (ts.length-(rsK ts k).length)).2);rw[rsK_len,show ts.length-(ts.length-k)=k by omega]⟩⟩
   have CP:=Lib.hid (pplace_any H4.out HE4.out hk4 (fun t ht=>by have:=(HLN.out.2 t ht).2.2;omega));have heb:(e==0)=false:=beq_false_of_ne hne;generalize placeT ts k=PT at *;obtain⟨pa,pb⟩:=PT;dsimp only at hp CP;have HP:=Lib.hid hp;clear hp hpar hpar2 hend;go_wp2_with fail;refine CP.out.mono ?_;rintro r w5 ⟨rfl,b5⟩;have HB5:=Lib.hid (HB4.out.trans (b5.mono (Nat.le_trans HRW.out (Nat.le_of_lt H4.out.blk.lt))));clear b5 CP H4 HB4;go_wp2_with fail;refine bodyPost_ret (v:=.tuple #[.slice none 0 0,.int .i64 e,.int .i64 (pa:Int),.int .i64 (pb:Int)]) (by simp[results,Tryz.results10,go_sem]) rfl ?_;exact⟨([],e,pa,pb),none,0,HP.out,rfl,Nat.le_refl _,RowsG.nil _ _,fun x h=>absurd h (by simp),HB5.out⟩
 ·have heb:(er==0)=false:=beq_false_of_ne he;have hp:PsIs s ([],er,la,lb):=⟨ts,er,la,lb,HL.out,.inl ⟨he,rfl⟩⟩;have HP:=Lib.hid hp;clear hp;go_enter Tryz.func10,Tryz.ntmps10;go_wp2_with fail;refine CL.out.mono ?_;rintro r w1 ⟨⟨q,cq,rfl,hcq,hT,hq⟩,b1⟩;have HB1:=Lib.hid b1;clear hT b1 CL hq;go_wp2_with fail;refine bodyPost_ret (v:=.tuple #[.slice none 0 0,.int .i64 er,.int .i64 (la:Int),.int .i64 (lb:Int)]) (by simp[results,Tryz.results10,go_sem]) rfl ?_;exact⟨([],er,la,lb),none,0,HP.out,rfl,Nat.le_refl _,RowsG.nil _ _,fun x h=>absurd h (by simp),HB1.out⟩
end Go.Proofs.YtnichceiafandaaGreatDoor
namespace Go.Proofs.YtnichceiafandaaGreatDoor
namespace Pz
open Tm (Nd Tr plainN okN okT arN printT checkT depthT pr sepB sevN)
open Wd (Tk lexAt lexD ktT)
theorem up_bad{d:Nat}{s:List K}{t:List Nd}{e:Int}{n:Nat}(h0:sg [45] s=none)(h:Par .atom d (.ok s t) (.bad e n)):Par (.bin true) d (.ok s t) (.bad e n) :=
 .bin true _ _ _ _ _ (.bin false _ _ _ _ _ (.mend _ _ _ _ h0 h) (.err _ _ _ _)) (.err _ _ _ _)
def op1:K:=(2,[40])
def cl1:K:=(2,[41])
theorem sev_leaf:leafK sevN=[(1,[55])]:=by decide +kernel
theorem seven(d:Nat)(r:List K)(t:List Nd):Par .atom d (.ok ((1,[55])::r) t) (.ok r (t++[sevN])):=by
 have k:=leaf_of (x:=sevN) (by decide +kernel) rfl r t;rw[sev_leaf]at k;exact .leaf _ _ _ _ k
theorem rep_last(n:Nat)(k:K)(r:List K):List.replicate (n+1) k++r=List.replicate n k++k::r:=by
 rw[List.replicate_succ',List.append_assoc];rfl
theorem deep_head(n:Nat)(r:List K):sg [45] (List.replicate n op1++((1,[55])::r))=none:=by
 cases n with
 | zero=>exact sg_no (by decide) _
 | succ n=>rw[List.replicate_succ];exact sg_no (by decide) _
theorem deep_yes:∀ (n d:Nat) (r:List K) (t:List Nd),d+n≤200→Par .atom d (.ok (List.replicate n op1++((1,[55])::(List.replicate n cl1++r))) t) (.ok r (t++[sevN]))
 | 0,d,r,t,_=>seven d r t
 | n+1,d,r,t,h=>by
  rw[rep_last n cl1 r];have k:=up (deep_head n _) (deep_yes n (d+1) (cl1::r) t (by omega)) rfl;have k2:=Par.paren d _ t _ (by rw[openK (by omega)];exact k);rw[show signR [41] (.ok (cl1::r) (t++[sevN]))=.ok r (t++[sevN]) from close _ _]at k2;exact k2
theorem deep_no:∀ (m n d:Nat) (z:List K) (t:List Nd),d+m=200→m<n→Par .atom d (.ok (List.replicate n op1++((1,[55])::z)) t) (.bad 111 (n-m+(z.length+1)))
 | 0,n,d,z,t,h,hn=>by
  obtain⟨n,rfl⟩:∃k,n=k+1:=⟨n-1,by omega⟩;obtain rfl:d=200:=by omega
  have ho:openR 200 (.ok ((2,[40])::(List.replicate n op1++((1,[55])::z))) t)=.bad 111 (n+1-0+(z.length+1)):=by
   unfold openR;simp only[sg_yes];rw[if_pos (Nat.le_refl _)]
   congr 1
   simp only[List.length_cons,List.length_append,List.length_replicate];omega
  have k:=Par.paren 200 (List.replicate n op1++((1,[55])::z)) t (.bad 111 (n+1-0+(z.length+1))) (by rw[ho];exact .err _ _ _ _);exact k
 | m+1,n,d,z,t,h,hn=>by
  obtain⟨n,rfl⟩:∃k,n=k+1:=⟨n-1,by omega⟩;have k:=up_bad (deep_head n z) (deep_no m n (d+1) z t (by omega) (by omega));have k2:=Par.paren d _ t _ (by rw[openK (by omega)];exact k);have e:n+1-(m+1)+(z.length+1)=n-m+(z.length+1):=by omega
  rw[e];exact k2
def deepS(n:Nat):List UInt8:=List.replicate n 40++(55::List.replicate n 41)
theorem rep_lex(b:UInt8)(h:Wd.isSgn b=true):∀ (n:Nat) (v:List UInt8),Lx (List.replicate n b) (List.replicate n (2,[b])) v
 | 0,v=>Lx.nil v
 | n+1,v=>by
  rw[List.replicate_succ,List.replicate_succ];exact(Lx.sign h _).join (rep_lex b h n v)
theorem deep_lex(n:Nat):Lx (deepS n) (List.replicate n op1++((1,[55])::(List.replicate n cl1++[]))) []:=by
 rw[List.append_nil];have k1:Lx [55] [(1,[55])] (List.replicate n 41++[]):=by
  refine Lx.nat (by decide) (by decide) ?_
  cases n with
  | zero=>rfl
  | succ n=>rw[List.replicate_succ];rfl
 exact(rep_lex 40 rfl n _).join (k1.join (rep_lex 41 rfl n []))
theorem deepS_len(n:Nat):(deepS n).length=2*n+1:=by
 unfold deepS;rw[List.length_append,List.length_cons,List.length_replicate,List.length_replicate];omega
theorem ps_deep_yes{n:Nat}(h:n≤200):PsIs (deepS n) ([sevN],0,0,0):=by
 have k:=ps_of (s:=deepS n) (by rw[deepS_len];omega) (deep_lex n) (up (deep_head n _) (deep_yes n 0 [] [] (by omega)) rfl);have e:outR (lexAt (deepS n) 1 1).1 (endR (.ok [] ([]++[sevN])))=([sevN],0,0,0):=by
  show (if checkT [sevN]=0 then ([sevN],(0:Int),0,0) else ([],100,1,1))=_;rw[if_pos (by decide +kernel)]
 rw[e]at k;exact k
theorem rep_at:∀ (n j c:Nat) (v:List UInt8),j<n→(lexAt (List.replicate n 40++v) 1 c).1[j]?=some (Tk.mk 2 [40] 1 (c+j))
 | 0,j,c,v,h=>absurd h (Nat.not_lt_zero j)
 | n+1,j,c,v,h=>by
  have hk:Wd.kl (40::(List.replicate n 40++v))=some (2,1):=by rw[Wd.kl_cons];rfl
  rw[List.replicate_succ];show (lexAt (40::(List.replicate n 40++v)) 1 c).1[j]?=_;rw[Wd.lex_tok 1 c (by decide) (by decide) hk]
  cases j with
  | zero=>rfl
  | succ j =>
   show (lexAt (List.replicate n 40++v) 1 (c+1)).1[j]?=_;rw[rep_at n j (c+1) v (by omega)]
   congr 2
   omega
theorem ps_deep_no{n:Nat}(h:200<n)(h':n≤300):PsIs (deepS n) ([],111,1,201):=by
 have k:=ps_of (s:=deepS n) (by rw[deepS_len];omega) (deep_lex n) (up_bad (deep_head n _) (deep_no 200 n 0 (List.replicate n cl1++[]) [] (by omega) h));have hl:(lexAt (deepS n) 1 1).1.length=2*n+1:=by
  obtain⟨l',c',h1,_⟩:=deep_lex n 1 1;rw[List.append_nil,Wd.lex_nil]at h1;have:=congrArg List.length h1;rw[List.length_map]at this;rw[this];simp only[List.length_append,List.length_cons,List.length_replicate,List.length_map,List.length_nil];omega
 have e:outR (lexAt (deepS n) 1 1).1 (endR (.bad 111 (n-200+((List.replicate n cl1++([]:List K)).length+1))))=([],111,1,201):=by
  show ([],(111:Int),(placeT _ _).1,(placeT _ _).2)=_;have hi:(lexAt (deepS n) 1 1).1.length-(n-200+((List.replicate n cl1++([]:List K)).length+1))=200:=by
   rw[hl,List.append_nil,List.length_replicate];omega
  have hp:(lexAt (deepS n) 1 1).1[200]?=some (Tk.mk 2 [40] 1 (1+200)):=rep_at n 200 1 _ h;rw[hi];unfold placeT;rw[hp]
 rw[e]at k;exact k
def nn(b:UInt8):Nd:=Nd.mk 0 ([b],[49]) [] 0 0
theorem nn_leaf{b:UInt8}(h:okN (nn b)=true)(hk:leafK (nn b)=[(1,[b])])(d:Nat)(r:List K)(t:List Nd):Par .minus d (.ok ((1,[b])::r) t) (.ok r (t++[nn b])):=by
 have k:=leaf_of (x:=nn b) h rfl r t;rw[hk]at k;exact at_minus (sg_no (by intro c;cases c) _) (.leaf _ _ _ _ k)
theorem n1(d:Nat)(r:List K)(t:List Nd):Par .minus d (.ok ((2,[45])::(1,[49])::r) t) (.ok r (t++[nn 49]++[plainN 5])):=Par.mgo _ _ _ _ (nn_leaf (by decide +kernel) (by decide +kernel) d r t)
theorem n2(d:Nat)(r:List K)(t:List Nd):Par .minus d (.ok ((1,[50])::r) t) (.ok r (t++[nn 50])):=nn_leaf (by decide +kernel) (by decide +kernel) d r t
theorem n3(d:Nat)(r:List K)(t:List Nd):Par .minus d (.ok ((1,[51])::r) t) (.ok r (t++[nn 51])):=nn_leaf (by decide +kernel) (by decide +kernel) d r t
def ordL(o p:Int):List Nd:=[nn 49,plainN 5,nn 50,plainN o,nn 51,plainN p]
def ordR(o p:Int):List Nd:=[nn 49,plainN 5,nn 50,nn 51,plainN p,plainN o]
def ordS(x y:UInt8):List UInt8:=[45,49,32,x,32,50,32,y,32,51]
end Pz
namespace Pz
open Tm (Nd Tr plainN okN okT arN printT checkT depthT pr sepB formB treeOf)
open Wd (Tk lexAt lexD ktT)
end Pz
namespace Pz
open Tm (Nd Tr plainN okN okT arN printT checkT depthT pr sepB formB treeOf)
open Wd (Tk lexAt lexD ktT kl run numL dotD)
def partB(y:UInt8):Bool:=!Wd.isLD y&&(!Wd.isDig y&&!(y==46))
theorem dot_part{y:UInt8}(h:partB y=true)(t:List UInt8):∀u:List UInt8,dotD (u++y::t)=dotD u:=by
 unfold partB at h;simp only[Bool.and_eq_true,Bool.not_eq_true',beq_eq_false_iff_ne]at h;obtain⟨h1,h2,h3⟩:=h;intro u
 match u with
 | []=>exact Wd.dot_no h3 t
 | [a] =>
  by_cases k:a=46
  ·subst k;exact h2
  ·show dotD (a::y::t)=_;rw[Wd.dot_no k,Wd.dot_no k]
 | a::b::r =>
  by_cases k:a=46
  ·subst k;rfl
  ·show dotD (a::(b::r++y::t))=_;rw[Wd.dot_no k,Wd.dot_no k]
theorem num_part{y:UInt8}(h:partB y=true)(t l:List UInt8):numL (l++y::t)=numL l:=by
 have hd:=h;unfold partB at hd;simp only[Bool.and_eq_true,Bool.not_eq_true',beq_eq_false_iff_ne]at hd;obtain⟨_,h2,_⟩:=hd;have h1:run Wd.isDig (l++y::t)=run Wd.isDig l:=Wd.run_stop h2 t l;have hle:=Wd.run_le Wd.isDig l;unfold numL;rw[h1,List.drop_append_of_le_length hle,dot_part h]
 cases hd:dotD (l.drop (run Wd.isDig l)) with
 | false=>rfl
 | true =>
  have h3:run Wd.isDig l+1≤l.length:=by
   by_cases c:run Wd.isDig l+1≤l.length
   ·exact c
   ·rw[List.drop_of_length_le (by omega)]at hd;cases hd
  rw[List.drop_append_of_le_length h3,Wd.run_stop h2 t]
theorem kl_part{y:UInt8}(hy:partB y=true)(t:List UInt8){l:List UInt8}(h:l≠[]):kl (l++y::t)=kl l:=by
 match l,h with
 | x::r,_ =>
  have hd:=hy;unfold partB at hd;simp only[Bool.and_eq_true,Bool.not_eq_true',beq_eq_false_iff_ne]at hd;have e1:run Wd.isLD (x::(r++y::t))=run Wd.isLD (x::r):=Wd.run_stop hd.1 t (x::r);have e2:numL (x::(r++y::t))=numL (x::r):=num_part hy t (x::r);show kl (x::(r++y::t))=_;rw[Wd.kl_cons,Wd.kl_cons,e1,e2]
theorem lex_part{y:UInt8}(hy:partB y=true)(t:List UInt8):∀ (s:List UInt8) (ln c:Nat),
  ((lexAt s ln c).2=none→∃ln' c',lexAt (s++y::t) ln c=((lexAt s ln c).1++(lexAt (y::t) ln' c').1,(lexAt (y::t) ln' c').2))∧((lexAt s ln c).2.isSome=true→(lexAt (s++y::t) ln c).2.isSome=true):=by
 refine Wd.lex_ind (fun ln c=>?_) (fun r ih ln c=>?_) (fun r ih ln c=>?_) (fun x r e1 e2 e ln c=>?_) (fun x r kd m e1 e2 e ih ln c=>?_)
 ·rw[Wd.lex_nil];exact⟨fun _=>⟨ln,c,rfl⟩,fun h=>by cases h⟩
 ·rw[List.cons_append,Wd.lex_blank,Wd.lex_blank];exact ih ln (c+1)
 ·rw[List.cons_append,Wd.lex_line,Wd.lex_line];exact ih (ln+1) 1
 ·have e':kl (x::(r++y::t))=none:=(kl_part hy t (l:=x::r) (by simp)).trans e;rw[List.cons_append,Wd.lex_bad ln c e1 e2 e,Wd.lex_bad ln c e1 e2 e'];exact⟨fun h=>(by cases h),fun _=>rfl⟩
 ·have e':kl (x::(r++y::t))=some (kd,m):=(kl_part hy t (l:=x::r) (by simp)).trans e;have hm:=(Wd.kl_len e).2;have d1:(x::(r++y::t)).take m=(x::r).take m:=List.take_append_of_le_length (l₁:=x::r) hm;have d2:(x::(r++y::t)).drop m=(x::r).drop m++y::t:=List.drop_append_of_le_length (l₁:=x::r) hm;rw[List.cons_append,Wd.lex_tok ln c e1 e2 e,Wd.lex_tok ln c e1 e2 e',d1,d2];obtain⟨i1,i2⟩:=ih ln (c+m);refine⟨fun h=>?_,fun h=>i2 h⟩;obtain⟨l2,c2,k⟩:=i1 h;exact⟨l2,c2,by rw[k];rfl⟩
theorem Lx.whole{s v:List UInt8}{y:UInt8}(hy:partB y=true)(h:(lexAt s 1 1).2=none):Lx s ((lexAt s 1 1).1.map ktT) (y::v):=fun ln c=>by
 obtain⟨k1,k2⟩:=Wd.lex_kt s ln c 1 1;rw[h]at k2;have k3:(lexAt s ln c).2=none:=by
  cases e:(lexAt s ln c).2 with
  | none=>rfl
  | some p=>rw[e]at k2;cases k2
 obtain⟨l',c',e⟩:=(lex_part hy v s ln c).1 k3;rw[e];exact⟨l',c',by rw[List.map_append,k1],rfl⟩
theorem Lx.line(v:List UInt8):Lx [10] [] v:=fun ln c=>⟨ln+1,1,by
 show (lexAt (10::v) ln c).1.map ktT=_;rw[Wd.lex_line];rfl,by
 show (lexAt (10::v) ln c).2=_;rw[Wd.lex_line]⟩
def inB(s:List UInt8):List UInt8:=32::10::(s++[32,10])
theorem inB_yes{s:List UInt8}(h:(lexAt s 1 1).2=none):Lx (inB s) ((lexAt s 1 1).1.map ktT) []:=by
 have k1:Lx [32,10] [] []:=(Lx.blank _).join (Lx.line []);have k2:=(Lx.whole (y:=32) (v:=[10]++[]) rfl h).join (s':=[32,10]) k1;rw[List.append_nil]at k2;exact(Lx.blank _).join ((Lx.line _).join k2)
theorem inB_no{s:List UInt8}(h:(lexAt s 1 1).2.isSome=true):(lexAt (inB s) 1 1).2.isSome=true:=by
 have k:=(Wd.lex_kt s 2 1 1 1).2;rw[h]at k;have k2:=(lex_part (y:=32) rfl [10] s 2 1).2 k;show (lexAt (32::10::(s++[32,10])) 1 1).2.isSome=true;rw[Wd.lex_blank,Wd.lex_line];exact k2
theorem inB_len(s:List UInt8):(inB s).length=s.length+4:=by
 show (s++[32,10]).length+1+1=_;rw[List.length_append];rfl
theorem lexD_inv{s:List UInt8}(hl:s.length≤20000):((lexAt s 1 1).2=none∧lexD s=((lexAt s 1 1).1,0,0,0))∨∃p,(lexAt s 1 1).2=some p∧lexD s=([],90,p.1,p.2):=by
 cases h:(lexAt s 1 1).2 with
 | none=>exact .inl ⟨rfl,lexD_ok hl h⟩
 | some p=>exact .inr ⟨p,rfl,lexD_no hl h⟩
theorem ps_inv{s:List UInt8}{R:List Nd×Int×Nat×Nat}(hl:s.length≤20000)(h:PsIs s R) :
  ((lexAt s 1 1).2=none∧∃x,Par (.bin true) 0 (.ok ((lexAt s 1 1).1.map ktT) []) x∧R=outR (lexAt s 1 1).1 (endR x))∨∃p,(lexAt s 1 1).2=some p∧R=([],90,p.1,p.2):=by
 obtain⟨ts,er,a,b,e,k⟩:=h;rcases lexD_inv hl with ⟨h1,h2⟩|⟨p,h1,h2⟩
 ·rw[h2]at e;obtain⟨rfl,e1⟩:=Prod.mk.inj e;obtain⟨rfl,e2⟩:=Prod.mk.inj e1;rcases k with ⟨h0,_⟩|⟨_,x,p,k⟩
  ·exact absurd rfl h0
  ·exact .inl ⟨h1,x,p,k⟩
 ·rw[h2]at e;obtain⟨rfl,e1⟩:=Prod.mk.inj e;obtain⟨rfl,e2⟩:=Prod.mk.inj e1;obtain⟨rfl,rfl⟩:=Prod.mk.inj e2;rcases k with ⟨_,k⟩|⟨h0,_⟩
  ·exact .inr ⟨p,h1,k⟩
  ·cases h0
theorem out_two(ts ts':List Tk)(x:Rs):∃a b,outR ts' x=((outR ts x).1,(outR ts x).2.1,a,b):=by
 cases x with
 | bad e n=>exact⟨_,_,rfl⟩
 | ok r t =>
  show ∃a b,(if checkT t=0 then (t,(0:Int),0,0) else ([],100,1,1))=((if checkT t=0 then (t,(0:Int),0,0) else ([],100,1,1)).1,(if checkT t=0 then (t,(0:Int),0,0) else ([],100,1,1)).2.1,a,b);split
  ·exact⟨_,_,rfl⟩
  ·exact⟨_,_,rfl⟩
theorem ps_blanks{s:List UInt8}{R:List Nd×Int×Nat×Nat}(hl:s.length≤2000)(h:PsIs s R):∃a b,PsIs (inB s) (R.1,R.2.1,a,b):=by
 have hl2:(inB s).length≤20000:=by rw[inB_len];omega
 rcases ps_inv (by omega) h with ⟨h1,x,p,rfl⟩|⟨q,h1,rfl⟩
 ·obtain⟨a,b,e⟩:=out_two (lexAt s 1 1).1 (lexAt (inB s) 1 1).1 (endR x);have k:=ps_of hl2 (inB_yes h1) p;rw[e]at k;exact⟨a,b,k⟩
 ·have k:=inB_no (s:=s) (by rw[h1];rfl)
  cases e:(lexAt (inB s) 1 1).2 with
  | none=>rw[e]at k;cases k
  | some p=>exact⟨p.1,p.2,[],90,p.1,p.2,lexD_no hl2 e,.inl ⟨by decide,rfl⟩⟩
theorem ps_none{s:List UInt8}{t:List Nd}{e:Int}{a b:Nat}(h:PsIs s (t,e,a,b))(he:e≠0):t=[]:=by
 obtain⟨ts,er,a',b',el,k⟩:=h;rcases k with ⟨h0,k⟩|⟨h0,x,p,k⟩
 ·exact(Prod.mk.inj k).1
 ·cases hx:endR x with
  | bad e' n =>
   rw[hx]at k;exact(Prod.mk.inj k).1
  | ok r u =>
   rw[hx]at k;have k:(t,e,a,b)=if checkT u=0 then (u,(0:Int),0,0) else ([],100,1,1):=k
   split at k
   ·exact absurd (Prod.mk.inj (Prod.mk.inj k).2).1 he
   ·exact(Prod.mk.inj k).1
theorem sg_app{u:List UInt8}{r r1:List K}(z:List K)(h:sg u r=some r1):sg u (r++z)=some (r1++z):=by
 match r with
 | []=>cases h
 | k::r =>
  rw[sg_cons]at h;show sg u (k::(r++z))=_;rw[sg_cons];split at h
  ·cases h;rw[if_pos (by assumption)]
  ·cases h
theorem name_app{r r1:List K}{a:List UInt8}(z:List K)(h:nameR r=some (a,r1)):nameR (r++z)=some (a,r1++z):=by
 match r with
 | []=>cases h
 | k::r =>
  rw[nameR_cons]at h;show nameR (k::(r++z))=_;rw[nameR_cons];split at h
  ·cases h;rw[if_pos (by assumption)]
  ·cases h
theorem day_app{lo hi x:Int}{r r1:List K}(z:List K)(h:dayR lo hi r=some (x,r1)):dayR lo hi (r++z)=some (x,r1++z):=by
 match r with
 | []=>cases h
 | k::r =>
  have h:(if k.1=1∧(smallS k.2).2=true∧lo≤(smallS k.2).1∧(smallS k.2).1≤hi∧(smallS k.2).1≤9999 then some ((smallS k.2).1,r) else none)=some (x,r1):=h;show (if k.1=1∧(smallS k.2).2=true∧lo≤(smallS k.2).1∧(smallS k.2).1≤hi∧(smallS k.2).1≤9999 then some ((smallS k.2).1,r++z) else none)=_;split at h
  ·cases h;rw[if_pos (by assumption)]
  ·cases h
theorem nat_app{zero:Bool}{a:List UInt8}{r r1:List K}(z:List K)(h:natR zero r=some (a,r1)):natR zero (r++z)=some (a,r1++z):=by
 match r with
 | []=>cases h
 | k::r =>
  have h:(if k.1=1∧isNat k.2=true∧k.2.length≤60∧(zero=true∨k.2≠[48]) then some (k.2,r) else none)=some (a,r1):=h;show (if k.1=1∧isNat k.2=true∧k.2.length≤60∧(zero=true∨k.2≠[48]) then some (k.2,r++z) else none)=_;split at h
  ·cases h;rw[if_pos (by assumption)]
  ·cases h
theorem then_inv{α:Type}{r0:List K}{x:Option α}{f:α→Rs}{r:List K}{u:List Nd}(h:thenR r0 x f=.ok r u):∃a,x=some a∧f a=.ok r u:=by
 cases x with
 | none=>cases h
 | some a=>exact⟨a,rfl,h⟩
theorem price_app{op:Int}{s r:List K}{t u:List Nd}(z:List K)(h:priceR op s t=.ok r u):priceR op (s++z) t=.ok (r++z) u:=by
 unfold priceR at h ⊢;obtain⟨r1,e1,h⟩:=then_inv h;obtain⟨⟨a,r2⟩,e2,h⟩:=then_inv h;obtain⟨r3,e3,h⟩:=then_inv h;obtain⟨⟨x,r4⟩,e4,h⟩:=then_inv h;rw[then_some (sg_app z e1),then_some (name_app z e2)];dsimp only;rw[then_some (sg_app z e3),then_some (day_app z e4)];dsimp only at h ⊢;split at h
 ·rename_i c
  obtain⟨r5,e5,h⟩:=then_inv h;rw[if_pos c,then_some (sg_app z e5)]
  cases h;rfl
 ·rename_i c
  obtain⟨r5,e5,h⟩:=then_inv h;obtain⟨⟨y,r6⟩,e6,h⟩:=then_inv h;obtain⟨r7,e7,h⟩:=then_inv h;rw[if_neg c,then_some (sg_app z e5),then_some (day_app z e6)];dsimp only;rw[then_some (sg_app z e7)]
  cases h;rfl
theorem minus_app{r:List K}(z:List K)(h:r≠[]):minusR (r++z)=((minusR r).1,(minusR r).2++z):=by
 match r with
 | []=>exact absurd rfl h
 | k::r =>
  show minusR (k::(r++z))=_;unfold minusR;rw[sg_cons,sg_cons];by_cases c:k=(2,[45])
  ·rw[if_pos c,if_pos c]
  ·rw[if_neg c,if_neg c];rfl
theorem num_app{s r:List K}{t u:List Nd}(z:List K)(h:numR s t=.ok r u):numR (s++z) t=.ok (r++z) u:=by
 unfold numR at h ⊢;obtain⟨r1,e1,h⟩:=then_inv h;obtain⟨⟨a,r3⟩,e2,h⟩:=then_inv h;obtain⟨r4,e3,h⟩:=then_inv h;obtain⟨⟨b,r5⟩,e4,h⟩:=then_inv h;obtain⟨r6,e5,h⟩:=then_inv h;have hne:r1≠[]:=fun e=>by rw[e]at e2;cases e2
 rw[then_some (sg_app z e1)];dsimp only;rw[minus_app z hne];dsimp only;rw[then_some (nat_app z e2)];dsimp only;rw[then_some (sg_app z e3),then_some (nat_app z e4)];dsimp only;rw[then_some (sg_app z e5)]
 cases h;rfl
theorem number_app{w:List UInt8}{s r:List K}{t u:List Nd}(z:List K)(h:numberR w s t=.ok r u):numberR w (s++z) t=.ok (r++z) u:=by
 unfold numberR at h ⊢;split at h
 ·rename_i c
  rw[if_pos c]
  cases h;rfl
 ·cases h
theorem leaf_app{s r:List K}{t u:List Nd}(z:List K)(h:leafR s t=some (.ok r u)):leafR (s++z) t=some (.ok (r++z) u):=by
 match s with
 | []=>cases h
 | k::s =>
  rw[leafR_cons]at h;show leafR (k::(s++z)) t=_;rw[leafR_cons];split at h
  ·rename_i c
   rw[if_pos c,number_app z (Option.some.inj h)]
  ·rename_i c
   rw[if_neg c];split at h
   ·rename_i c2
    rw[if_pos c2];split at h
    ·rename_i op eo
     split at h
     ·rename_i c3
      rw[if_pos c3,num_app z (Option.some.inj h)]
     ·rename_i c3
      rw[if_neg c3];split at h
      ·rename_i c4
       rw[if_pos c4,price_app z (Option.some.inj h)]
      ·cases h
    ·cases h
   ·split at h
    ·cases h
    ·cases h
end Pz
end Go.Proofs.YtnichceiafandaaGreatDoor
