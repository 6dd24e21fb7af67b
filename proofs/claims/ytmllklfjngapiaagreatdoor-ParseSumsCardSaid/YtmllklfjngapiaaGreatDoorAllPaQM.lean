/- Own work. -/
import Derived.Test.YtmllklfjngapiaaGreatDoorAllTmB
import Derived.Test.YtmllklfjngapiaaGreatDoorAllTmDd
import Derived.Test.YtmllklfjngapiaaGreatDoorAllTmDp
import Derived.Test.YtmllklfjngapiaaGreatDoorAllPaP
set_option linter.unusedSimpArgs false
set_option linter.unusedVariables false
set_option maxHeartbeats 4000000
set_option maxRecDepth 100000
namespace Go.Proofs.YtmllklfjngapiaaGreatDoor
open Go.RowKit
open Tm (Nd Tr arN arI astB okN formB treeOf stk mkT printT checkT depthT argsT joinT dp pr mx)
theorem z_rule{w:World}{p:Option Addr}{l:List Nat}(h:RowsG encZ 1 w p l){k:Nat}{x:Nat}(hx:l[k]?=some x):∃b o,p=some ⟨b,o,none⟩∧∀v,Below w.heap.size w v→v.cell? ⟨b,o+k,none⟩=some (.int .i64 (x:Int)):=by
 obtain⟨b,o,hp,hl,c⟩:=h k x hx;have c0:=c 0 _ rfl;rw[Nat.mul_one]at c0;exact⟨b,o,hp,fun v hb=>(hb.cell (p:=⟨b,_,none⟩) hl).trans c0⟩
theorem tdepth_fn(x:Nd)(L:List Nat)(q:Option Addr)(d:Nat)(w:World)(hL:L.length≤3)(hb:∀a∈L,a≤2000)(hd:L.length≤d)(h:RowsG encZ 1 w q L) :
  Calls Tryz.prog 84 #[.agg #[.int .i64 x.op,.string ⟨x.num.1.toArray⟩,.string ⟨x.num.2.toArray⟩,.string ⟨x.ast.toArray⟩,.int .i64 x.a,.int .i64 x.b],.slice q L.length d] w (GiveI w ((Tm.dpF x L:Nat):Int)):=by
 have HS:=zh h;have HB:=zh hb
 clear h hb;go_enter Tryz.func84,Tryz.ntmps84
 go_upto_region 1 with fail
 obtain⟨U,hU,bU,s1,r0,r1,r2,r3,r4,r5⟩:=lay6 (Below.refl w.heap.size w) (.int .i64 x.op) (.string ⟨x.num.1.toArray⟩) (.string ⟨x.num.2.toArray⟩) (.string ⟨x.ast.toArray⟩) (.int .i64 x.a) (.int .i64 x.b) 40;rw[hU];clear hU s1 r0 r1 r2 r3 r4 r5;have HU:=zh bU;clear bU;go_wp2_with fail
 go_loopw [5,10] (fun z i wr=>∃k:Nat,k≤L.length∧i=.int .i64 k∧z=.int .i64 ((mx (L.take k):Nat):Int)∧Below w.heap.size w wr) (fun _ i _=>L.length-(intOf i).toNat)
 case atStart=>exact⟨0,Nat.zero_le _,rfl,rfl,HU.out⟩
 case round =>
  obtain⟨k,hk,rfl,rfl,hw⟩:=hrel;by_cases hlt:k<L.length
  ·obtain⟨y,hy⟩:∃y,L[k]?=some y:=⟨_,List.getElem?_eq_getElem hlt⟩;obtain⟨b,oo,rfl,k0⟩:=z_rule (HS.out.below hw) hy;have q0:=k0 wr (Below.refl _ _);have HN:Hid (mx (L.take (k+1))=max (mx (L.take k)) y):=zh (by rw[List.take_add_one,hy];exact Tm.mx_snoc _ _);have HW:=zh hw;clear hw k0 hy;generalize mx (L.take k)=M at *;by_cases hle:M≤y
   ·have hmx:max (M:Int) (y:Int)=(y:Int):=by omega
    have HN2:Hid (mx (L.take (k+1))=y):=zh (by rw[HN.out];omega);clear hle;go_wp2_with fail;go_roundw
    case rel=>exact⟨k+1,hlt,by go_num,by rw[HN2.out]<;>first|rfl|rw[hmx],HW.out⟩
    case measure=>simp[intOf];omega
   ·have hmx:max (M:Int) (y:Int)=(M:Int):=by omega
    have HN2:Hid (mx (L.take (k+1))=M):=zh (by rw[HN.out];omega);clear hle;go_wp2_with fail;go_roundw
    case rel=>exact⟨k+1,hlt,by go_num,by rw[HN2.out]<;>first|rfl|rw[hmx],HW.out⟩
    case measure=>simp[intOf];omega
  ·obtain rfl:k=L.length:=by omega
   rw[List.take_length];have hM:mx L≤2000:=Tm.mx_le HB.out;have HD:Hid (Tm.dpF x L=mx L+1):=zh rfl;generalize mx L=M at *;have hwr:wrap64 ((M:Int)+1)=(M:Int)+1:=IntWalk.wrap64_in _ ⟨by omega,by omega⟩;have hwr2:IntKind.i64.wrap ((M:Int)+1)=(M:Int)+1:=IntWalk.i64_in _ (by omega);have HW:=zh hw;clear hw hlt;go_wp2_with fail;go_ret;exact⟨ret_i (by rw[HD.out];omega),HW.out⟩
theorem stk_part{t:List Nd}{k:Nat}{S L:List Tr}{x:Nd}(hx:t[k]?=some x)(h:stk t k=some (S++L)):∀s∈L,s.wf∧s.flat.length≤t.length:=fun s hs=>by
 have hk:=(List.getElem?_eq_some_iff.1 hx).1;have e:=Tm.stk_fl h (by omega);have h1:=Tm.one_fl (st:=S++L) (s:=s) (List.mem_append_right _ hs);exact⟨(Tm.stk_flat h).2 s (List.mem_append_right _ hs),by omega⟩
theorem tdepth_any(p:Option Addr)(c:Nat)(t:List Nd)(w:World)(ht:t.length≤2000)(hg:GoodX w)(hT:Nds w p t):Calls Tryz.prog 51 #[.slice p t.length c] w (GiveI w ((depthT t:Nat):Int)):=by
 have RK:=zh (reck_depth p c t w w none (by simp) (fun _=>True) (fun _ _ _=>True) (zh fun _ _ _ _ _ _=>trivial) (zh fun _ _ _ _ _ _ _ _=>trivial)
  (zh fun k x S L V q d hx hs ha _ _ _ hd hr=>by
   have h3:=Tm.arN_le ha;have e:(L.map (Tr.fold Tm.dpF)).length=L.length:=List.length_map _;have k1:=tdepth_fn x (L.map (Tr.fold Tm.dpF)) q d V (by rw[e];exact h3) (fun a ha=>by
    obtain⟨s,hs1,rfl⟩:=List.mem_map.1 ha;have h1:=(stk_part hx hs s hs1).2;have h2:=Tm.dp_le s;have h2:s.fold Tm.dpF≤s.flat.length:=h2;omega) (by rw[e];exact hd) hr
   rw[e]at k1;exact k1.mono fun e w' h=>⟨h.1,grw_none h.2 none,trivial,trivial⟩)
  trivial (Below.refl _ _) hg ht hT)
 clear hT hg;go_enter Tryz.func51,Tryz.ntmps51;go_wp2_with fail;refine RK.out.mono ?_;rintro e w1 ⟨a,rfl,hlo,_,_,hyes,hno⟩;have HA:Hid (depthT t=a):=zh (by
  cases hf:formB t with
  | true =>
   obtain⟨tr,n,h1,h2,_⟩:=hyes hf;rw[Tm.depth_of hf h1,h2];rfl
  | false=>rw[Tm.depth_no hf,hno hf])
 generalize formB t=g at *;clear hyes hno RK;go_wp2_with fail;go_ret;exact⟨ret_i (by rw[HA.out]),hlo⟩
theorem ps_len{s:Tr}(hw:s.wf)(ho:Tm.okT s)(hl:s.flat.length≤2000):(s.fold Tm.prF).length≤1000000:=by
 have h:=Tm.pr_len hw ho;have h:(s.fold Tm.prF).length≤140*s.flat.length:=h;omega
theorem x_some{w:World}{q:Option Addr}{us:List (List UInt8)}(h:RowsG encX 1 w q us)(hn:us≠[]):∃b o,q=some ⟨b,o,none⟩:=by
 cases us with
 | nil=>exact absurd rfl hn
 | cons x r=>obtain⟨b,o,hp,_⟩:=h 0 x rfl;exact⟨b,o,hp⟩
theorem tprint_any(p:Option Addr)(c:Nat)(t:List Nd)(w:World)(ht:t.length≤2000)(hz:∀x∈t,SzN x)(hg:GoodX w)(hT:Nds w p t):Calls Tryz.prog 52 #[.slice p t.length c] w (GiveU w (printT t)):=by
 have CD:=zh (tdepth_any p c t w ht hg hT);have CC:=zh (fun V (h:Below w.heap.size w V)=>tcontains_any p c t V (by omega) (fun x hx=>⟨by have:=(hz x hx).1.1;omega,by have:=(hz x hx).1.2.1;omega⟩) (hT.below h));have b0:=Below.refl w.heap.size w
 cases hf:formB t with
 | false =>
  have HP:=zh (Tm.print_form hf);have hd:=Tm.depth_no hf;rw[hd]at CD;clear hT hg hf hd hz;go_enter Tryz.func52,Tryz.ntmps52;go_wp2_with fail;refine CD.out.mono ?_;rintro e w1 ⟨rfl,b⟩;have b1:=Below.more b0 b;clear b;go_wp2_with fail;go_ret;exact⟨ret_u (by rw[HP.out]),b1⟩
 | true =>
  obtain⟨tr,htr,he,hw,hfl,_,_⟩:=Tm.form_stk hf;have hd:0<depthT t:=by
   rw[Tm.depth_of hf he,Tm.dp,Tm.fold_top];exact Nat.succ_pos _
  have hd0:((depthT t:Nat):Int)≠0:=by omega
  have hdb:(((depthT t:Nat):Int)==0)=false:=beq_false_of_ne hd0;have hd1:¬((depthT t:Nat):Int)=0:=hd0;generalize depthT t=D at *
  cases ho:t.all okN with
  | false =>
   have HP:Hid (printT t=[]):=zh (by
    obtain⟨x,hx,hk⟩:∃x,x∈t∧okN x=false:=by simpa using ho
    obtain⟨i,hi⟩:=List.getElem?_of_mem hx;exact Tm.print_bad hi hk)
   rw[ho]at CC;clear hT hg hf hz htr he hw hfl ho;go_enter Tryz.func52,Tryz.ntmps52;go_wp2_with fail;refine CD.out.mono ?_;rintro e w1 ⟨rfl,b⟩;have b1:=Below.more b0 b;clear b;go_wp2_with fail;refine(CC.out w1 b1).mono ?_;rintro e w2 ⟨rfl,b⟩;have b2:=Below.more b1 b;clear b;go_wp2_with fail;go_ret;exact⟨ret_u (by rw[HP.out]),b2⟩
  | true =>
   have hok:=List.all_eq_true.1 ho;have HP:Hid (printT t=pr tr):=zh (Tm.print_yes hf he hok);rw[ho]at CC;have RK:=zh (fun V (hV:Below w.heap.size w V)=>reck_print p c t V V none (by simp) (fun _=>True) (fun _ _ _=>True) (zh fun _ _ _ _ _ _=>trivial) (zh fun _ _ _ _ _ _ _ _=>trivial)
    (zh fun k x S L V' q d hx hs ha hlo _ _ hd hr=>by
     have h3:=Tm.arN_le ha;have e:(L.map (Tr.fold Tm.prF)).length=L.length:=List.length_map _;have hx':=List.mem_of_getElem? hx;have hk:=hok x hx';obtain⟨⟨z1,z2,z3⟩,_,z5,z6⟩:=hz x hx';have hs2:=Tm.stk_ok hs fun j y _ hy=>hok y (List.mem_of_getElem? hy);have k1:=ttext_any x (.slice q L.length d) (L.map (Tr.fold Tm.prF)) V' (hg.below (Below.more hV hlo)) (by rw[e];exact ha) hk (by omega) (by omega) (by omega) z5 z6 (fun u hu=>by
      obtain⟨s,hs1,rfl⟩:=List.mem_map.1 hu;have h1:=stk_part hx hs s hs1;obtain⟨h4,h5⟩:=hs2 s (List.mem_append_right _ hs1);exact ps_len h4 h5 (by omega)) (fun hn=>by
      obtain⟨b,oo,hq⟩:=x_some hr hn;exact⟨b,oo,d,by rw[hq,e],by rw[e];exact hd,hq▸hr⟩)
     exact k1.mono fun e w' h=>⟨h.1,grw_none h.2 none,trivial,trivial⟩)
    trivial (Below.refl _ _) (hg.below hV) ht (hT.below hV))
   have HF:=zh hf;have HE:=zh he
   clear hT hg hf hz htr he hw hfl ho hok;go_enter Tryz.func52,Tryz.ntmps52;go_wp2_with fail;refine CD.out.mono ?_;rintro e w1 ⟨rfl,b⟩;have b1:=Below.more b0 b;clear b;go_wp2_with fail;refine(CC.out w1 b1).mono ?_;rintro e w2 ⟨rfl,b⟩;have b2:=Below.more b1 b;clear b;go_wp2_with fail;refine(RK.out w2 b2).mono ?_;rintro e w3 ⟨a,rfl,hlo,_,_,hyes,hno⟩;have HA:Hid (printT t=a):=zh (by
    obtain⟨tr',n,h1,h2,_⟩:=hyes HF.out;obtain rfl:tr=tr':=Option.some.inj (HE.out.symm.trans h1);rw[HP.out,h2];rfl)
   rw[HF.out];clear hyes hno RK CC CD HP;go_wp2_with fail;go_ret;exact⟨ret_u (by rw[HA.out]),Below.more b2 hlo⟩
theorem check_deep{t:List Nd}(h:150<depthT t):checkT t=100:=by unfold checkT;rw[if_pos (.inr (.inr h))]
theorem check_len{t:List Nd}(h:¬150<depthT t):checkT t=if (printT t).length=0∨20000<(printT t).length then 100 else 0:=by
 unfold checkT;by_cases h1:(printT t).length=0
 ·rw[if_pos (.inl (List.length_eq_zero_iff.1 h1)),if_pos (.inl h1)]
 ·by_cases h2:20000<(printT t).length
  ·rw[if_pos (.inr (.inl h2)),if_pos (.inr h2)]
  ·rw[if_neg (by rintro(e|e|e);exact h1 (by rw[e];rfl);exact h2 e;exact h e),if_neg (by rintro(e|e);exact h1 e;exact h2 e)]
theorem tcheck_any(p:Option Addr)(c:Nat)(t:List Nd)(w:World)(ht:t.length≤2000)(hz:∀x∈t,SzN x)(hg:GoodX w)(hT:Nds w p t):Calls Tryz.prog 19 #[.slice p t.length c] w (GiveI w (checkT t)):=by
 have CD:=zh (tdepth_any p c t w ht hg hT);have CP:=zh (fun V (h:Below w.heap.size w V)=>tprint_any p c t V ht hz (hg.below h) (hT.below h));have b0:=Below.refl w.heap.size w;clear hT hg hz;by_cases hd:150<depthT t
 ·have HC:=zh (check_deep hd);have hdi:(150:Int)<((depthT t:Nat):Int):=by omega
  generalize depthT t=D at *;clear hd;go_enter Tryz.func19,Tryz.ntmps19;go_wp2_with fail;refine CD.out.mono ?_;rintro e w1 ⟨rfl,b⟩;have b1:=Below.more b0 b;clear b;go_wp2_with fail;go_ret;exact⟨ret_i (by rw[HC.out]),b1⟩
 ·have hc:=check_len hd;have hdi:¬(150:Int)<((depthT t:Nat):Int):=by omega
  generalize depthT t=D at *;generalize printT t=T at *;clear hd;by_cases h1:T.length=0
  ·have HC:Hid (checkT t=100):=zh (by rw[hc,if_pos (.inl h1)]);have h1b:((T.length:Int)==0)=true:=by rw[h1];rfl
   have hT0:T=[]:=List.length_eq_zero_iff.1 h1;subst hT0;clear hc h1;go_enter Tryz.func19,Tryz.ntmps19;go_wp2_with fail;refine CD.out.mono ?_;rintro e w1 ⟨rfl,b⟩;have b1:=Below.more b0 b;clear b;go_wp2_with fail;refine(CP.out w1 b1).mono ?_;rintro e w2 ⟨rfl,b⟩;have b2:=Below.more b1 b;clear b;go_wp2_with fail;go_ret;exact⟨ret_i (by rw[HC.out]),b2⟩
  ·have h1i:¬(T.length:Int)=0:=by omega
   have h1b:((T.length:Int)==0)=false:=beq_false_of_ne h1i;have h1n:¬T=[]:=fun e=>h1 (by rw[e];rfl);by_cases h2:20000<T.length
   ·have HC:Hid (checkT t=100):=zh (by rw[hc,if_pos (.inr h2)]);have h2i:(20000:Int)<(T.length:Int):=by omega
    clear hc;go_enter Tryz.func19,Tryz.ntmps19;go_wp2_with fail;refine CD.out.mono ?_;rintro e w1 ⟨rfl,b⟩;have b1:=Below.more b0 b;clear b;go_wp2_with fail;refine(CP.out w1 b1).mono ?_;rintro e w2 ⟨rfl,b⟩;have b2:=Below.more b1 b;clear b;go_wp2_with fail;go_ret;exact⟨ret_i (by rw[HC.out]),b2⟩
   ·have HC:Hid (checkT t=0):=zh (by rw[hc,if_neg (by rintro(e|e);exact h1 e;exact h2 e)]);have h2i:¬(20000:Int)<(T.length:Int):=by omega
    clear hc;go_enter Tryz.func19,Tryz.ntmps19;go_wp2_with fail;refine CD.out.mono ?_;rintro e w1 ⟨rfl,b⟩;have b1:=Below.more b0 b;clear b;go_wp2_with fail;refine(CP.out w1 b1).mono ?_;rintro e w2 ⟨rfl,b⟩;have b2:=Below.more b1 b;clear b;go_wp2_with fail;go_ret;exact⟨ret_i (by rw[HC.out]),b2⟩
end Go.Proofs.YtmllklfjngapiaaGreatDoor
set_option maxHeartbeats 4000000
set_option maxRecDepth 100000
namespace Go.Proofs.YtmllklfjngapiaaGreatDoor
open Go.RowKit
open Fl (fl)
open Wd (Tk lexAt lexD)
def GiveLex2(w:World)(r:List Tk×Int×Nat×Nat)(e:Ending)(w':World):Prop:=(∃p c,e=.returned (.tuple #[.slice p r.1.length c,.int .i64 r.2.1,.int .i64 (r.2.2.1:Int),.int .i64 (r.2.2.2:Int)])∧r.1.length≤c∧Toks w' p r.1∧∀a,p=some a→a.block<w'.heap.size)∧Below w.heap.size w w'
theorem giveLex2_no{w w':World}{r:List Tk×Int×Nat×Nat}{a b:Nat}(h:r=([],90,a,b))(hb:Below w.heap.size w w'):GiveLex2 w r (.returned (.tuple #[.slice none 0 0,.int .i64 90,.int .i64 (a:Int),.int .i64 (b:Int)])) w':=by
 subst h;exact⟨⟨none,0,rfl,Nat.le_refl _,RowsG.nil _ _,fun a e=>by cases e⟩,hb⟩
theorem giveLex2_yes{w w':World}{r:List Tk×Int×Nat×Nat}{B:Nat}{v:Value}{ts:List Tk}(h:r=(ts,0,0,0))(ho:OwnT B w' v ts)(hb:Below w.heap.size w w'):GiveLex2 w r (.returned (.tuple #[v,.int .i64 0,.int .i64 0,.int .i64 0])) w':=by
 subst h;have hl:∀g,v.ownBlock=some g→g<w'.heap.size:=by
  rcases ho.2 with ⟨rfl,_⟩|⟨g,cap,cur,rfl,k2,k3,_⟩
  ·exact fun g c=>by simp[Value.ownBlock]at c
  ·exact fun b c=>by
    have e:g=b:=Option.some.inj c;subst e;exact(Array.getElem?_eq_some_iff.1 k3).1
 obtain⟨p,c,rfl,hc,hr,_⟩:=ownG_rows (enc:=encT) (k:=4) (fun _=>rfl) ho;refine⟨⟨p,c,rfl,hc,hr,fun a e=>?_⟩,hb⟩;subst e;exact hl a.block rfl
theorem wlex2_l(s:List UInt8)(w:World)(hsl:s.length≤20000)(hg:GoodL w):Calls Tryz.prog 15 #[.string ⟨s.toArray⟩] w (GiveLex2 w (lexD s)):=by
 have hb:¬(20000:Int)<(s.length:Int):=by omega
 have HG:=zh hg;have HSL:=zh hsl;clear hg hsl;go_enter Tryz.func15,Tryz.ntmps15
 go_wp2
 refine wp_scope_pass 0 (LexJ s w) (fun a' _=>sizeV (a'.tmps.getD 0 undef)) rfl ?_ ?_
 ·rintro a' w1 ⟨t,ts,L,C,out,u1,u8,u9,u10,u11,u12,u13,u14,u15,u16,u17,u18,u19,u20,u21,u22,u23,u24,u25,u26,u27,u28,u29,u30,u31,u32,u33,u34,u35,u36,u37,u38,u39,u40,u41,u42,u43,u44,u45,u46,u47,u48,u49,u50,u51,u52,u53,u54,u55,u56,u57,u58,u59,u60,u61,rfl,hL,hC,hn,HP,ho,hw⟩;have HO:=zh ho;have HW:=zh hw
  have HGW:=zh (HG.out.below hw);clear ho hw;have cs:=fun V=>wskip_any ⟨t.toArray⟩ L C V (by rw[size_tx];omega) (by rw[size_tx];omega);have HP2:=zh (lexP_skip HP.out);obtain⟨f1,f2,f3⟩:=skp_fit t L C 20001 hL hC;have fh:=skp_head t L C;have cs:∀V,Calls Tryz.prog 33 #[.string ⟨t.toArray⟩,plV L C] V (GiveQ V (skV (skp t L C))):=cs;generalize skp t L C=K at *;obtain⟨t2,L2,C2⟩:=K;dsimp only[skV]at cs HP2 f1 f2 f3 fh;have CS:=zh cs;clear cs HP;rcases fh with rfl|⟨x,r,rfl,hx1,hx2⟩
  ·have HR:=zh (lexP_end HP2.out HSL.out);go_wp2_with fail;refine(CS.out _).mono ?_;rintro e w2 ⟨rfl,rfl⟩;go_wp2_with fail;simp only[Exit.jump];refine bodyPost_ret (v:=.tuple #[out,.int .i64 0,.int .i64 0,.int .i64 0]) (by simp[results,Tryz.results15,go_sem, *]) rfl ?_;exact giveLex2_yes HR.out HO.out HW.out
  ·have cf:=fun V=>wfirst_any ⟨(x::r).toArray⟩ V (by rw[size_tx,List.length_cons];omega) (by rw[size_tx];omega);have fk:=fst_lt x r;have fl':=fst_le x r;have hne:¬x::r=[]:=by simp
   have HB:=fun (h:(fst (x::r)).2=0∨lim (fst (x::r)).1<(fst (x::r)).2)=>lexP_bad HP2.out hx1 hx2 h HSL.out;have HT:=fun (h:¬((fst (x::r)).2=0∨lim (fst (x::r)).1<(fst (x::r)).2))=>lexP_tok HP2.out hx1 hx2 h;have hc1:=fun m=>cut_head (x::r) m;have hc2:=fun m=>cut_tail (x::r) m;have hsz:=size_tx (x::r);have cf:∀V,Calls Tryz.prog 34 #[.string ⟨(x::r).toArray⟩] V (GiveQ V (.tuple #[.int .i64 ((fst (x::r)).1:Int),.int .i64 ((fst (x::r)).2:Int)])):=cf;generalize fst (x::r)=F at *;obtain⟨kd,sz⟩:=F;dsimp only at cf fk fl' HB HT f1 f2 f3;generalize x::r=q at *;have CF:=zh cf;have hne':(q == [])=false:=beq_false_of_ne hne;have cw:=fun V=>wwrong_any L2 C2 V (by omega) (by omega);have CW:=zh cw;have hfl:=fl';have hcell:=HGW.out.cell fk;have hk0:¬((kd:Nat):Int)<0:=by omega
   have hk3:((kd:Nat):Int)<3:=by omega
   clear cf cw HP2 hx1 hx2 HGW;by_cases h0:sz=0
   ·have HR:=zh (HB (.inl h0));have hz:((sz:Int)==0)=true:=by rw[h0];rfl
    clear HB HT hc1 hc2;go_wp2_with fail;refine(CS.out _).mono ?_;rintro e w2 ⟨rfl,rfl⟩;go_wp2_with fail;refine(CF.out _).mono ?_;rintro e w3 ⟨rfl,rfl⟩;go_wp2_with fail;refine(CW.out _).mono ?_;rintro e w4 ⟨rfl,rfl⟩;go_wp2_with fail;simp only[Exit.jump];refine bodyPost_ret (v:=.tuple #[.slice none 0 0,.int .i64 90,.int .i64 (L2:Int),.int .i64 (C2:Int)]) (by simp[results,Tryz.results15,go_sem, *]) rfl ?_;exact giveLex2_no HR.out HW.out
   ·have hz:((sz:Int)==0)=false:=beq_false_of_ne (by omega);by_cases hl:lim kd<sz
    ·have HR:=zh (HB (.inr hl));have hl':((lim kd:Nat):Int)<(sz:Int):=by omega
     clear HB HT hc1 hc2;go_wp2_with fail;refine(CS.out _).mono ?_;rintro e w2 ⟨rfl,rfl⟩;go_wp2_with fail;refine(CF.out _).mono ?_;rintro e w3 ⟨rfl,rfl⟩;go_wp2_with fail;refine(CW.out _).mono ?_;rintro e w4 ⟨rfl,rfl⟩;go_wp2_with fail;simp only[Exit.jump];refine bodyPost_ret (v:=.tuple #[.slice none 0 0,.int .i64 90,.int .i64 (L2:Int),.int .i64 (C2:Int)]) (by simp[results,Tryz.results15,go_sem, *]) rfl ?_;exact giveLex2_no HR.out HW.out
    ·have hl':¬((lim kd:Nat):Int)<(sz:Int):=by omega
     have HP3:=zh (HT (by omega));have e1:=hc1 sz;have e2:=hc2 sz;have hdl:(q.drop sz).length=q.length-sz:=List.length_drop;generalize q.take sz=tx at *;generalize q.drop sz=rest at *;have HX1:=zh e1;have HX2:=zh e2
     have ct:=fun V=>wtoken_any kd L2 C2 ⟨tx.toArray⟩ V (by omega) (by omega);have cb:=fun V=>wbehind_any L2 C2 sz V (by omega) (by omega);have CT:=zh ct;have CB:=zh cb
     have hs0:¬((sz:Nat):Int)<0:=by omega
     clear HB HT hc1 hc2 e1 e2 ct cb;go_wp2_with fail;refine(CS.out _).mono ?_;rintro e w2 ⟨rfl,rfl⟩;go_wp2_with fail;refine(CF.out _).mono ?_;rintro e w3 ⟨rfl,rfl⟩;go_wp2_with fail;rw[HX1.out];refine(CT.out _).mono ?_;rintro e w4 ⟨rfl,b4⟩;have HO4:=zh (ownG_below HO.out b4);have HW4:=zh (Below.more HW.out b4);clear HO HW b4 hcell;go_wp2_with (at_builtin;refine haltG ?_);show wpList _ _ _ _ _ _;have hrow:=rowsOne (enc:=encT) (k:=4) w4 (Tk.mk kd tx L2 C2) 73 #[.int .i64 (kd:Int),.string ⟨tx.toArray⟩,.int .i64 (L2:Int),.int .i64 (C2:Int)] rfl;refine wpList_append_G rfl _ _ 42 73 rfl Tryz.underlying42 tokInfo rfl (by decide) (by decide) (fun _=>rfl) encT_one w.heap.size _ ts rfl (World.ownsRow.alloc HO4.out _) ⟨w4.heap.size,0,none⟩ (Tk.mk kd tx L2 C2) 1 rfl hrow (by omega) (Below.size (Below.alloc HW4.out (Below.size HW4.out) _)) ?_;intro v' w5 ho hg hloc;have HO5:=zh ho;have HW5:=zh (Below.grown (Below.alloc HW4.out (Below.size HW4.out) _) hg (Below.size (Below.alloc HW4.out (Below.size HW4.out) _)) fun j hj=>(World.ownsRow.lt HO4.out j hj).1);clear ho hg hloc hrow HO4 HW4;go_wp2_with fail
     go_quiet ((go_at_call 36;exact Calls.quiet_of_same (CB.out _)))
     go_wp2_with fail
     go_step3
     rw[HX2.out];have bd:=below_drewN (Below.refl w5.heap.size w5) nq;refine⟨rfl,⟨rest,ts++[Tk.mk kd tx L2 C2],L2,C2+sz,v',_,_,_,_,_,_,_,_,_,_,_,_,_,_,_,_,_,_,_,_,_,_,_,_,_,_,_,_,_,_,_,_,_,_,_,_,_,_,_,_,_,_,_,_,_,_,_,_,_,_,_,_,_,_,_,rfl,by omega,by omega,by rw[List.length_append,List.length_singleton];omega,HP3,ownG_below HO5.out bd,Below.more HW5.out bd⟩,?_⟩;show (⟨rest.toArray⟩:ByteArray).size<(⟨t.toArray⟩:ByteArray).size;rw[size_tx,size_tx];omega
 ·intro K;have HK:=zh K;clear K
  go_upto_region 5 with fail
  rename_i K0 hK0
  refine wp_label ?_;have hsl:=HSL.out;show K0 _ _;rw[←Fl.fl_1];exact hK0 _ _ (HK.out _ _ ⟨s,[],1,1,.slice none 0 0,_,_,_,_,_,_,_,_,_,_,_,_,_,_,_,_,_,_,_,_,_,_,_,_,_,_,_,_,_,_,_,_,_,_,_,_,_,_,_,_,_,_,_,_,_,_,_,_,_,_,_,_,_,_,_,rfl,by omega,by omega,by show 0+s.length≤20000;omega,zh (show LexP s [] s 1 1 from rfl),⟨rfl,.inl ⟨rfl,rfl⟩⟩,Below.refl _ _⟩)
theorem wlex2_any(s:ByteArray)(w:World)(hs:s.size≤20000)(hg:GoodL w):Calls Tryz.prog 15 #[.string s] w (GiveLex2 w (lexD s.data.toList)):=by
 have k:=wlex2_l s.data.toList w (by rw[size_toList];exact hs) hg;have e:(⟨s.data.toList.toArray⟩:ByteArray)=s:=bytes_eq rfl;rw[e]at k;exact k
end Go.Proofs.YtmllklfjngapiaaGreatDoor
set_option maxHeartbeats 4000000
set_option maxRecDepth 100000
namespace Go.Proofs.YtmllklfjngapiaaGreatDoor
open Go.RowKit
open Wd (Tk okT ktT)
open Tm (Nd plainN arI arN)
open Pz (Wt tgt settleF)
open Pz (PsIs Par Rs endR outR placeT)
open Tm (checkT)
def GivePs(w:World)(s:List UInt8)(r:Ending)(w':World):Prop :=
 ∃ (R:List Nd×Int×Nat×Nat) (q:Option Addr) (cq:Nat),PsIs s R∧r=.returned (.tuple #[.slice q R.1.length cq,.int .i64 R.2.1,.int .i64 (R.2.2.1:Int),.int .i64 (R.2.2.2:Int)])∧R.1.length≤cq∧Nds w' q R.1∧(∀x∈R.1,SzN x)∧Below w.heap.size w w'
def FewN(s:List UInt8):Prop:=∀ts a b,Wd.lexD s=(ts,0,a,b)→∀t,Par (.bin true) 0 (.ok (ts.map ktT) []) (.ok [] t)→t.length≤2000
theorem rsK_0(l:List Tk):rsK l 0=l.map ktT:=by unfold rsK;rw[List.drop_zero]
theorem kl_le{l:List UInt8}{kd m:Nat}(h:Wd.kl l=some (kd,m)):m≤100:=by
 cases l with
 | nil=>cases h
 | cons x r =>
  rw[Wd.kl_cons]at h;split at h
  ·split at h
   ·have:=(Prod.mk.inj (Option.some.inj h)).2;omega
   ·cases h
  ·split at h
   ·split at h
    ·have:=(Prod.mk.inj (Option.some.inj h)).2;omega
    ·cases h
   ·split at h
    ·have:=(Prod.mk.inj (Option.some.inj h)).2;omega
    ·cases h
theorem lex_bd:∀ (l:List UInt8) (ln c:Nat),(Wd.lexAt l ln c).1.length≤l.length∧∀t∈(Wd.lexAt l ln c).1,t.text.length≤100∧t.col≤c+l.length:=by
 refine Wd.lex_ind (fun ln c=>?_) (fun r ih ln c=>?_) (fun r ih ln c=>?_) (fun x r e1 e2 e ln c=>?_) (fun x r kd m e1 e2 e ih ln c=>?_)
 ·rw[Wd.lex_nil];exact⟨Nat.le_refl _,fun _ h=>absurd h (by simp)⟩
 ·rw[Wd.lex_blank];obtain⟨a,b⟩:=ih ln (c+1);rw[List.length_cons];exact⟨by omega,fun t ht=>⟨(b t ht).1,by have:=(b t ht).2;omega⟩⟩
 ·rw[Wd.lex_line];obtain⟨a,b⟩:=ih (ln+1) 1;rw[List.length_cons];exact⟨by omega,fun t ht=>⟨(b t ht).1,by have:=(b t ht).2;omega⟩⟩
 ·rw[Wd.lex_bad ln c e1 e2 e];exact⟨Nat.zero_le _,fun _ h=>absurd h (by simp)⟩
 ·rw[Wd.lex_tok ln c e1 e2 e];obtain⟨a,b⟩:=ih ln (c+m);have hm:=Wd.kl_len e;have hm2:=kl_le e;rw[List.length_drop]at a b;refine⟨?_,fun t ht=>?_⟩
  ·show (Wd.lexAt ((x::r).drop m) ln (c+m)).1.length+1≤(x::r).length;omega
  ·rcases List.mem_cons.1 ht with rfl|ht
   ·refine⟨?_,Nat.le_add_right _ _⟩;show ((x::r).take m).length≤100;rw[List.length_take];omega
   ·exact⟨(b t ht).1,by have:=(b t ht).2;omega⟩
theorem lexD_len{s:List UInt8}{ts:List Tk}{e:Int}{a b:Nat}(h:Wd.lexD s=(ts,e,a,b)):ts.length≤s.length∧∀t∈ts,okT (ktT t)∧t.text.length≤100∧t.col≤s.length+1:=by
 unfold Wd.lexD at h;split at h
 ·obtain rfl:=(Prod.mk.inj h).1;exact⟨Nat.zero_le _,fun _ h=>absurd h (by simp)⟩
 ·split at h
  ·obtain rfl:=(Prod.mk.inj h).1;obtain⟨k1,k2⟩:=lex_bd s 1 1;exact⟨k1,fun t ht=>⟨Wd.lex_ok s 1 1 t ht,(k2 t ht).1,by have:=(k2 t ht).2;omega⟩⟩
  ·obtain rfl:=(Prod.mk.inj h).1;exact⟨Nat.zero_le _,fun _ h=>absurd h (by simp)⟩
variable {R : Nat} {Z : List Nat} {p : Option Addr} {c : Nat} {mv wv ov : Value} {l : List Tk} {k d : Nat} {K : List Wt} {t : List Nd}
theorem pplace_any{w:World}(h:RdS R Z p c mv l k d K t wv ov w)(E:PEn R p l w)(hk:k≤l.length)(hcol:∀t∈l,t.col≤1000000):Calls Tryz.prog 18 #[.pointer (some ⟨R,0,none⟩)] w (GiveNN w (placeT l k)):=by
 cases hx:l[k]? with
 | some t0=>exact pplace_at h E hx
 | none =>
  cases hy:l[k-1]? with
  | some t0=>exact pplace_end h E hx hk hy (hcol t0 (List.mem_of_getElem? hy))
  | none =>
   have h1:=List.getElem?_eq_none_iff.1 hx;have h2:=List.getElem?_eq_none_iff.1 hy;obtain rfl:l=[]:=List.length_eq_zero_iff.1 (by omega);obtain rfl:k=0:=by simp at hk;exact hk
   exact pplace_nil h
theorem own_zero{α:Type}{enc:α→List Value}{kk:Nat}{e:TypeId}{B:Nat}{w:World}:OwnG enc kk e B w (.slice none 0 0) []:=own_nil w
theorem pparse_any(s:List UInt8)(w:World)(hs:s.length≤20000)(hg:GoodP w)(hf:FewN s):Calls Tryz.prog 7 #[.string ⟨s.toArray⟩] w (GivePs w s):=by
 have cl:=wlex2_any ⟨s.toArray⟩ w (by show s.toArray.size≤20000;rw[List.size_toArray];exact hs) hg.l;rw[show (⟨s.toArray⟩:ByteArray).data.toList=s from rfl]at cl;obtain⟨⟨ts,er,la,lb⟩,hL⟩:∃L,Wd.lexD s=L:=⟨_,rfl⟩;rw[hL]at cl;have HL:=zh hL;have HF:=zh hf;have HG:=zh hg;have HLN:=zh (lexD_len hL);have CL:=zh cl;clear cl hL hf hg;by_cases he:er=0
 ·subst he;go_enter Tryz.func7,Tryz.ntmps7;go_wp2_with fail;refine CL.out.mono ?_;rintro r w1 ⟨⟨q,cq,rfl,hcq,hT,hq⟩,b1⟩;dsimp only at hT hcq;have HT:=zh hT;have HQ:=zh hq;have HB1:=zh b1;clear hT b1 CL hq;go_wp2_with fail;refine(pnames_any _).mono ?_;rintro r w2 ⟨mb,rfl,hmb,hN,b2⟩;have hR:=blk_new w2 #[.slice q ts.length cq,.int .i64 0,.map (some mb),.slice none 0 0,.int .i64 0,.slice none 0 0] 49;have b3:Below w2.heap.size w2 (w2.alloc (.cells #[.slice q ts.length cq,.int .i64 0,.map (some mb),.slice none 0 0,.int .i64 0,.slice none 0 0] 49)):=Below.alloc (Below.refl _ _) (Nat.le_refl _) _;have HB3:=zh (Below.more (Below.more HB1.out b2) b3);have HT3:=zh ((HT.out.below b2).below b3);have hlow:∀a,q=some a→a.block<w2.heap.size:=fun a e=>Nat.lt_of_lt_of_le (HQ.out a e) b2.size;have HR0:Hid (RdS w2.heap.size [] q cq (.map (some mb)) ts 0 0 [] [] (.slice none 0 0) (.slice none 0 0) (w2.alloc (.cells #[.slice q ts.length cq,.int .i64 0,.map (some mb),.slice none 0 0,.int .i64 0,.slice none 0 0] 49))):=zh ⟨hR,own_zero,own_zero,(fun g e=>by cases e),(fun g e=>by cases e),(fun z c=>by cases c),(fun c=>by cases c)⟩;have HG2:=zh ((HG.out.below HB1.out).below b2);have HN3:Hid (NamesM mb (w2.alloc (.cells #[.slice q ts.length cq,.int .i64 0,.map (some mb),.slice none 0 0,.int .i64 0,.slice none 0 0] 49))):=zh (World.ownsMap.alloc hN _);have HMB:=zh hmb;have HLow:=zh hlow;have hR0:w2.heap.size<(w2.alloc (.cells #[.slice q ts.length cq,.int .i64 0,.map (some mb),.slice none 0 0,.int .i64 0,.slice none 0 0] 49)).heap.size:=by simp
  have HRL:=zh hR0;have HB23:=zh b3;have HB12:=zh b2;clear hR b2 b3 hN hmb hlow hR0
  go_upto_region 5 with fail
  obtain⟨W,hW⟩:∃W,w2.alloc (.cells #[.slice q ts.length cq,.int .i64 0,.map (some mb),.slice none 0 0,.int .i64 0,.slice none 0 0] 49)=W:=⟨_,rfl⟩;obtain⟨R,hRe⟩:∃R,R=w2.heap.size:=⟨_,rfl⟩;rw[hW]at HB3 HT3 HR0 HN3 HRL HB23 ⊢;rw[←hRe]at HR0 HRL HMB HLow HB23 ⊢;have HRW:=zh (show w.heap.size≤R by rw[hRe];exact Nat.le_trans HB1.out.size (show w1.heap.size≤w2.heap.size from HB12.out.size));have HE:Hid (PEn R q ts W):=zh ⟨HT3.out,⟨by have:=HLN.out.1;omega,fun t ht=>⟨(HLN.out.2 t ht).1,(HLN.out.2 t ht).2.1⟩⟩,HLow.out,by rw[hRe]at HB23;exact HG2.out.below HB23.out,fun V hV=>HG2.out.below (by rw[hRe]at HB23 hV;exact HB23.out.trans hV)⟩;clear hW hRe;have CR:=zh (pread_any HR0.out HE.out HN3.out HMB.out);go_wp2_with fail;refine CR.out.mono ?_;rintro r w4 ⟨k,d,K,t,wv,ov,e,rfl,h4,hb4,hk4,ht4,hz4,hfin⟩;have H4:=zh h4;have HB4:=zh (HB3.out.trans (hb4.mono HRW.out));have HE4:=zh (HE.out.below hb4);have HZ4:=zh hz4;clear h4 hb4 CR HR0 HN3 HB3 HT3 HMB hz4;rcases hfin with ⟨rfl,hpar⟩|⟨hne,y,hpar,hend⟩
  ·have hpar2:=hpar;rw[rsK_0]at hpar2;have HFew:=zh (HF.out ts la lb HL.out t hpar2);have HPs:Hid (∀R2,R2=(if checkT t=0 then (t,(0:Int),0,0) else ([],100,1,1))→PsIs s R2):=zh (fun R2 e=>⟨ts,0,la,lb,HL.out,.inr ⟨rfl,_,hpar2,e⟩⟩);obtain⟨qo,co,hov,hco,hro,_⟩:=ownG_rows (enc:=encD) (k:=6) (fun _=>rfl) H4.out.own2;have c5:=H4.out.blk.c 5 _ rfl;subst hov;have CC:=zh (tcheck_any qo co t w4 HFew.out HZ4.out HE4.out.good.x hro);have HRO:=zh hro;have HCO:=zh hco;clear hpar hpar2 hro hco
   cases hc:decide (checkT t=0) with
   | true =>
    have hc0:checkT t=0:=of_decide_eq_true hc;have hp:=HPs.out _ rfl;rw[if_pos hc0]at hp;have HP:=zh hp;rw[hc0]at CC;clear hc hc0 hp HPs;go_wp2_with fail;refine CC.out.mono ?_;rintro r w5 ⟨rfl,b5⟩;have c5:=(H4.out.below b5).blk.c 5 _ rfl;have HB5:=zh (HB4.out.trans (b5.mono (Nat.le_trans HRW.out (Nat.le_of_lt H4.out.blk.lt))));have HR5:=zh (HRO.out.below b5);clear b5 CC H4 HB4 HRO;go_wp2_with fail;refine bodyPost_end (v:=.tuple #[.slice qo t.length co,.int .i64 0,.int .i64 0,.int .i64 0]) (by simp[results,Tryz.results7,go_sem]) rfl ?_;exact⟨(t,0,0,0),qo,co,HP.out,rfl,HCO.out,HR5.out,HZ4.out,HB5.out⟩
   | false =>
    have hc0:¬checkT t=0:=of_decide_eq_false hc;have hp:=HPs.out _ rfl;rw[if_neg hc0]at hp;have HP:=zh hp;have hcb:(checkT t==0)=false:=beq_false_of_ne hc0;generalize checkT t=X at *;clear hc hp HPs;go_wp2_with fail;refine CC.out.mono ?_;rintro r w5 ⟨rfl,b5⟩;have HB5:=zh (HB4.out.trans (b5.mono (Nat.le_trans HRW.out (Nat.le_of_lt H4.out.blk.lt))));clear b5 CC H4 HB4 HRO c5;go_wp2_with fail;refine bodyPost_ret (v:=.tuple #[.slice none 0 0,.int .i64 100,.int .i64 1,.int .i64 1]) (by simp[results,Tryz.results7,go_sem]) rfl ?_;exact⟨([],100,1,1),none,0,HP.out,rfl,Nat.le_refl _,RowsG.nil _ _,fun x h=>absurd h (by simp),HB5.out⟩
  ·have hpar2:=hpar;rw[rsK_0]at hpar2;have hp:PsIs s ([],e,(placeT ts k).1,(placeT ts k).2):=⟨ts,0,la,lb,HL.out,.inr ⟨rfl,y,hpar2,by
    rw[hend];show _=([],e,(placeT ts (ts.length-(rsK ts k).length)).1,(placeT ts (ts.length-(rsK ts k).length)).2);rw[rsK_len,show ts.length-(ts.length-k)=k by omega]⟩⟩
   have CP:=zh (pplace_any H4.out HE4.out hk4 (fun t ht=>by have:=(HLN.out.2 t ht).2.2;omega));have heb:(e==0)=false:=beq_false_of_ne hne;generalize placeT ts k=PT at *;obtain⟨pa,pb⟩:=PT;dsimp only at hp CP;have HP:=zh hp;clear hp hpar hpar2 hend;go_wp2_with fail;refine CP.out.mono ?_;rintro r w5 ⟨rfl,b5⟩;have HB5:=zh (HB4.out.trans (b5.mono (Nat.le_trans HRW.out (Nat.le_of_lt H4.out.blk.lt))));clear b5 CP H4 HB4;go_wp2_with fail;refine bodyPost_ret (v:=.tuple #[.slice none 0 0,.int .i64 e,.int .i64 (pa:Int),.int .i64 (pb:Int)]) (by simp[results,Tryz.results7,go_sem]) rfl ?_;exact⟨([],e,pa,pb),none,0,HP.out,rfl,Nat.le_refl _,RowsG.nil _ _,fun x h=>absurd h (by simp),HB5.out⟩
 ·have heb:(er==0)=false:=beq_false_of_ne he;have hp:PsIs s ([],er,la,lb):=⟨ts,er,la,lb,HL.out,.inl ⟨he,rfl⟩⟩;have HP:=zh hp;clear hp;go_enter Tryz.func7,Tryz.ntmps7;go_wp2_with fail;refine CL.out.mono ?_;rintro r w1 ⟨⟨q,cq,rfl,hcq,hT,hq⟩,b1⟩;have HB1:=zh b1;clear hT b1 CL hq;go_wp2_with fail;refine bodyPost_ret (v:=.tuple #[.slice none 0 0,.int .i64 er,.int .i64 (la:Int),.int .i64 (lb:Int)]) (by simp[results,Tryz.results7,go_sem]) rfl ?_;exact⟨([],er,la,lb),none,0,HP.out,rfl,Nat.le_refl _,RowsG.nil _ _,fun x h=>absurd h (by simp),HB1.out⟩
end Go.Proofs.YtmllklfjngapiaaGreatDoor
