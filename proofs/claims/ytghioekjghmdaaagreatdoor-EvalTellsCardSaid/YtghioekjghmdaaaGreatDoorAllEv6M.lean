/- Own work. -/
import Derived.Test.YtghioekjghmdaaaGreatDoorAllTmB
import Derived.Test.YtghioekjghmdaaaGreatDoorAllTmDd
import Derived.Test.YtghioekjghmdaaaGreatDoorAllTmDp
import Derived.Test.YtghioekjghmdaaaGreatDoorAllEvCM
import Derived.Test.YtghioekjghmdaaaGreatDoorAllEv5
set_option linter.unusedSimpArgs false
set_option linter.unusedVariables false
set_option maxHeartbeats 4000000
set_option maxRecDepth 100000
namespace Go.Proofs.YtghioekjghmdaaaGreatDoor
open Go.RowKit
open Tm (Nd Tr arN arI astB okN formB treeOf stk mkT printT checkT depthT argsT joinT dp pr mx)
theorem z_rule{w:World}{p:Option Addr}{l:List Nat}(h:RowsG encZ 1 w p l){k:Nat}{x:Nat}(hx:l[k]?=some x):∃b o,p=some ⟨b,o,none⟩∧∀v,Below w.heap.size w v→v.cell? ⟨b,o+k,none⟩=some (.int .i64 (x:Int)):=by
 obtain⟨b,o,hp,hl,c⟩:=h k x hx;have c0:=c 0 _ rfl;rw[Nat.mul_one]at c0;exact⟨b,o,hp,fun v hb=>(hb.cell (p:=⟨b,_,none⟩) hl).trans c0⟩
theorem tdepth_fn(x:Nd)(L:List Nat)(q:Option Addr)(d:Nat)(w:World)(hL:L.length≤3)(hb:∀a∈L,a≤2000)(hd:L.length≤d)(h:RowsG encZ 1 w q L) :
  Calls Tryz.prog 95 #[.agg #[.int .i64 x.op,.string ⟨x.num.1.toArray⟩,.string ⟨x.num.2.toArray⟩,.string ⟨x.ast.toArray⟩,.int .i64 x.a,.int .i64 x.b],.slice q L.length d] w (GiveI w ((Tm.dpF x L:Nat):Int)):=by
 have HS:=zh h;have HB:=zh hb
 clear h hb;go_enter Tryz.func95,Tryz.ntmps95
 go_upto_region 1 with fail
 obtain⟨U,hU,bU,s1,r0,r1,r2,r3,r4,r5⟩:=lay6 (Below.refl w.heap.size w) (.int .i64 x.op) (.string ⟨x.num.1.toArray⟩) (.string ⟨x.num.2.toArray⟩) (.string ⟨x.ast.toArray⟩) (.int .i64 x.a) (.int .i64 x.b) 55;rw[hU];clear hU s1 r0 r1 r2 r3 r4 r5;have HU:=zh bU;clear bU;go_wp2_with fail
 go_loopw [5,10] (fun z i wr=>∃k:Nat,k≤L.length∧i=.int .i64 k∧z=.int .i64 ((mx (L.take k):Nat):Int)∧Below w.heap.size w wr) (fun _ i _=>L.length-(intOf i).toNat)
 case atStart=>exact⟨0,Nat.zero_le _,rfl,rfl,HU.out⟩
 case round =>
  obtain⟨k,hk,rfl,rfl,hw⟩:=hrel;by_cases hlt:k<L.length
  ·obtain⟨y,hy⟩:∃y,L[k]?=some y:=⟨_,List.getElem?_eq_getElem hlt⟩;obtain⟨b,oo,rfl,k0⟩:=z_rule (HS.out.below hw) hy;have q0:=k0 wr (Below.refl _ _);have HN:Hid (mx (L.take (k+1))=max (mx (L.take k)) y):=zh (by rw[List.take_add_one,hy];exact Tm.mx_snoc _ _);have HW:=zh hw;clear hw k0 hy;generalize mx (L.take k)=M at *;by_cases hle:M≤y
   ·have hmx:max (M:Int) (y:Int)=(y:Int):=by omega
    have HN2:Hid (mx (L.take (k+1))=y):=zh (by rw[HN.out];omega);clear hle;go_wp2_with fail;go_roundw
    case rel=>exact⟨k+1,hlt,by go_num,by rw[HN2.out]<;>first|rfl|rw[hmx],HW.out⟩
    case measure=>simp[intOf];omega
   ·have hmx:max (M:Int) (y:Int)=(M:Int):=by omega
    have HN2:Hid (mx (L.take (k+1))=M):=zh (by rw[HN.out];omega);clear hle;go_wp2_with fail;go_roundw
    case rel=>exact⟨k+1,hlt,by go_num,by rw[HN2.out]<;>first|rfl|rw[hmx],HW.out⟩
    case measure=>simp[intOf];omega
  ·obtain rfl:k=L.length:=by omega
   rw[List.take_length];have hM:mx L≤2000:=Tm.mx_le HB.out;have HD:Hid (Tm.dpF x L=mx L+1):=zh rfl;generalize mx L=M at *;have hwr:wrap64 ((M:Int)+1)=(M:Int)+1:=IntWalk.wrap64_in _ ⟨by omega,by omega⟩;have hwr2:IntKind.i64.wrap ((M:Int)+1)=(M:Int)+1:=IntWalk.i64_in _ (by omega);have HW:=zh hw;clear hw hlt;go_wp2_with fail;go_ret;exact⟨ret_i (by rw[HD.out];omega),HW.out⟩
theorem stk_part{t:List Nd}{k:Nat}{S L:List Tr}{x:Nd}(hx:t[k]?=some x)(h:stk t k=some (S++L)):∀s∈L,s.wf∧s.flat.length≤t.length:=fun s hs=>by
 have hk:=(List.getElem?_eq_some_iff.1 hx).1;have e:=Tm.stk_fl h (by omega);have h1:=Tm.one_fl (st:=S++L) (s:=s) (List.mem_append_right _ hs);exact⟨(Tm.stk_flat h).2 s (List.mem_append_right _ hs),by omega⟩
theorem tdepth_any(p:Option Addr)(c:Nat)(t:List Nd)(w:World)(ht:t.length≤2000)(hg:GoodX w)(hT:Nds w p t):Calls Tryz.prog 55 #[.slice p t.length c] w (GiveI w ((depthT t:Nat):Int)):=by
 have RK:=zh (reck_depth p c t w w none (by simp) (fun _=>True) (fun _ _ _=>True) (zh fun _ _ _ _ _ _=>trivial) (zh fun _ _ _ _ _ _ _ _=>trivial)
  (zh fun k x S L V q d hx hs ha _ _ _ hd hr=>by
   have h3:=Tm.arN_le ha;have e:(L.map (Tr.fold Tm.dpF)).length=L.length:=List.length_map _;have k1:=tdepth_fn x (L.map (Tr.fold Tm.dpF)) q d V (by rw[e];exact h3) (fun a ha=>by
    obtain⟨s,hs1,rfl⟩:=List.mem_map.1 ha;have h1:=(stk_part hx hs s hs1).2;have h2:=Tm.dp_le s;have h2:s.fold Tm.dpF≤s.flat.length:=h2;omega) (by rw[e];exact hd) hr
   rw[e]at k1;exact k1.mono fun e w' h=>⟨h.1,grw_none h.2 none,trivial,trivial⟩)
  trivial (Below.refl _ _) hg ht hT)
 clear hT hg;go_enter Tryz.func55,Tryz.ntmps55;go_wp2_with fail;refine RK.out.mono ?_;rintro e w1 ⟨a,rfl,hlo,_,_,hyes,hno⟩;have HA:Hid (depthT t=a):=zh (by
  cases hf:formB t with
  | true =>
   obtain⟨tr,n,h1,h2,_⟩:=hyes hf;rw[Tm.depth_of hf h1,h2];rfl
  | false=>rw[Tm.depth_no hf,hno hf])
 generalize formB t=g at *;clear hyes hno RK;go_wp2_with fail;go_ret;exact⟨ret_i (by rw[HA.out]),hlo⟩
theorem ps_len{s:Tr}(hw:s.wf)(ho:Tm.okT s)(hl:s.flat.length≤2000):(s.fold Tm.prF).length≤1000000:=by
 have h:=Tm.pr_len hw ho;have h:(s.fold Tm.prF).length≤140*s.flat.length:=h;omega
theorem x_some{w:World}{q:Option Addr}{us:List (List UInt8)}(h:RowsG encX 1 w q us)(hn:us≠[]):∃b o,q=some ⟨b,o,none⟩:=by
 cases us with
 | nil=>exact absurd rfl hn
 | cons x r=>obtain⟨b,o,hp,_⟩:=h 0 x rfl;exact⟨b,o,hp⟩
theorem tprint_any(p:Option Addr)(c:Nat)(t:List Nd)(w:World)(ht:t.length≤2000)(hz:∀x∈t,SzN x)(hg:GoodX w)(hT:Nds w p t):Calls Tryz.prog 56 #[.slice p t.length c] w (GiveU w (printT t)):=by
 have CD:=zh (tdepth_any p c t w ht hg hT);have CC:=zh (fun V (h:Below w.heap.size w V)=>tcontains_any p c t V (by omega) (fun x hx=>⟨by have:=(hz x hx).1.1;omega,by have:=(hz x hx).1.2.1;omega⟩) (hT.below h));have b0:=Below.refl w.heap.size w
 cases hf:formB t with
 | false =>
  have HP:=zh (Tm.print_form hf);have hd:=Tm.depth_no hf;rw[hd]at CD;clear hT hg hf hd hz;go_enter Tryz.func56,Tryz.ntmps56;go_wp2_with fail;refine CD.out.mono ?_;rintro e w1 ⟨rfl,b⟩;have b1:=Below.more b0 b;clear b;go_wp2_with fail;go_ret;exact⟨ret_u (by rw[HP.out]),b1⟩
 | true =>
  obtain⟨tr,htr,he,hw,hfl,_,_⟩:=Tm.form_stk hf;have hd:0<depthT t:=by
   rw[Tm.depth_of hf he,Tm.dp,Tm.fold_top];exact Nat.succ_pos _
  have hd0:((depthT t:Nat):Int)≠0:=by omega
  have hdb:(((depthT t:Nat):Int)==0)=false:=beq_false_of_ne hd0;have hd1:¬((depthT t:Nat):Int)=0:=hd0;generalize depthT t=D at *
  cases ho:t.all okN with
  | false =>
   have HP:Hid (printT t=[]):=zh (by
    obtain⟨x,hx,hk⟩:∃x,x∈t∧okN x=false:=by simpa using ho
    obtain⟨i,hi⟩:=List.getElem?_of_mem hx;exact Tm.print_bad hi hk)
   rw[ho]at CC;clear hT hg hf hz htr he hw hfl ho;go_enter Tryz.func56,Tryz.ntmps56;go_wp2_with fail;refine CD.out.mono ?_;rintro e w1 ⟨rfl,b⟩;have b1:=Below.more b0 b;clear b;go_wp2_with fail;refine(CC.out w1 b1).mono ?_;rintro e w2 ⟨rfl,b⟩;have b2:=Below.more b1 b;clear b;go_wp2_with fail;go_ret;exact⟨ret_u (by rw[HP.out]),b2⟩
  | true =>
   have hok:=List.all_eq_true.1 ho;have HP:Hid (printT t=pr tr):=zh (Tm.print_yes hf he hok);rw[ho]at CC;have RK:=zh (fun V (hV:Below w.heap.size w V)=>reck_print p c t V V none (by simp) (fun _=>True) (fun _ _ _=>True) (zh fun _ _ _ _ _ _=>trivial) (zh fun _ _ _ _ _ _ _ _=>trivial)
    (zh fun k x S L V' q d hx hs ha hlo _ _ hd hr=>by
     have h3:=Tm.arN_le ha;have e:(L.map (Tr.fold Tm.prF)).length=L.length:=List.length_map _;have hx':=List.mem_of_getElem? hx;have hk:=hok x hx';obtain⟨⟨z1,z2,z3⟩,_,z5,z6⟩:=hz x hx';have hs2:=Tm.stk_ok hs fun j y _ hy=>hok y (List.mem_of_getElem? hy);have k1:=ttext_any x (.slice q L.length d) (L.map (Tr.fold Tm.prF)) V' (hg.below (Below.more hV hlo)) (by rw[e];exact ha) hk (by omega) (by omega) (by omega) z5 z6 (fun u hu=>by
      obtain⟨s,hs1,rfl⟩:=List.mem_map.1 hu;have h1:=stk_part hx hs s hs1;obtain⟨h4,h5⟩:=hs2 s (List.mem_append_right _ hs1);exact ps_len h4 h5 (by omega)) (fun hn=>by
      obtain⟨b,oo,hq⟩:=x_some hr hn;exact⟨b,oo,d,by rw[hq,e],by rw[e];exact hd,hq▸hr⟩)
     exact k1.mono fun e w' h=>⟨h.1,grw_none h.2 none,trivial,trivial⟩)
    trivial (Below.refl _ _) (hg.below hV) ht (hT.below hV))
   have HF:=zh hf;have HE:=zh he
   clear hT hg hf hz htr he hw hfl ho hok;go_enter Tryz.func56,Tryz.ntmps56;go_wp2_with fail;refine CD.out.mono ?_;rintro e w1 ⟨rfl,b⟩;have b1:=Below.more b0 b;clear b;go_wp2_with fail;refine(CC.out w1 b1).mono ?_;rintro e w2 ⟨rfl,b⟩;have b2:=Below.more b1 b;clear b;go_wp2_with fail;refine(RK.out w2 b2).mono ?_;rintro e w3 ⟨a,rfl,hlo,_,_,hyes,hno⟩;have HA:Hid (printT t=a):=zh (by
    obtain⟨tr',n,h1,h2,_⟩:=hyes HF.out;obtain rfl:tr=tr':=Option.some.inj (HE.out.symm.trans h1);rw[HP.out,h2];rfl)
   rw[HF.out];clear hyes hno RK CC CD HP;go_wp2_with fail;go_ret;exact⟨ret_u (by rw[HA.out]),Below.more b2 hlo⟩
theorem check_deep{t:List Nd}(h:150<depthT t):checkT t=100:=by unfold checkT;rw[if_pos (.inr (.inr h))]
theorem check_len{t:List Nd}(h:¬150<depthT t):checkT t=if (printT t).length=0∨20000<(printT t).length then 100 else 0:=by
 unfold checkT;by_cases h1:(printT t).length=0
 ·rw[if_pos (.inl (List.length_eq_zero_iff.1 h1)),if_pos (.inl h1)]
 ·by_cases h2:20000<(printT t).length
  ·rw[if_pos (.inr (.inl h2)),if_pos (.inr h2)]
  ·rw[if_neg (by rintro(e|e|e);exact h1 (by rw[e];rfl);exact h2 e;exact h e),if_neg (by rintro(e|e);exact h1 e;exact h2 e)]
theorem tcheck_any(p:Option Addr)(c:Nat)(t:List Nd)(w:World)(ht:t.length≤2000)(hz:∀x∈t,SzN x)(hg:GoodX w)(hT:Nds w p t):Calls Tryz.prog 31 #[.slice p t.length c] w (GiveI w (checkT t)):=by
 have CD:=zh (tdepth_any p c t w ht hg hT);have CP:=zh (fun V (h:Below w.heap.size w V)=>tprint_any p c t V ht hz (hg.below h) (hT.below h));have b0:=Below.refl w.heap.size w;clear hT hg hz;by_cases hd:150<depthT t
 ·have HC:=zh (check_deep hd);have hdi:(150:Int)<((depthT t:Nat):Int):=by omega
  generalize depthT t=D at *;clear hd;go_enter Tryz.func31,Tryz.ntmps31;go_wp2_with fail;refine CD.out.mono ?_;rintro e w1 ⟨rfl,b⟩;have b1:=Below.more b0 b;clear b;go_wp2_with fail;go_ret;exact⟨ret_i (by rw[HC.out]),b1⟩
 ·have hc:=check_len hd;have hdi:¬(150:Int)<((depthT t:Nat):Int):=by omega
  generalize depthT t=D at *;generalize printT t=T at *;clear hd;by_cases h1:T.length=0
  ·have HC:Hid (checkT t=100):=zh (by rw[hc,if_pos (.inl h1)]);have h1b:((T.length:Int)==0)=true:=by rw[h1];rfl
   have hT0:T=[]:=List.length_eq_zero_iff.1 h1;subst hT0;clear hc h1;go_enter Tryz.func31,Tryz.ntmps31;go_wp2_with fail;refine CD.out.mono ?_;rintro e w1 ⟨rfl,b⟩;have b1:=Below.more b0 b;clear b;go_wp2_with fail;refine(CP.out w1 b1).mono ?_;rintro e w2 ⟨rfl,b⟩;have b2:=Below.more b1 b;clear b;go_wp2_with fail;go_ret;exact⟨ret_i (by rw[HC.out]),b2⟩
  ·have h1i:¬(T.length:Int)=0:=by omega
   have h1b:((T.length:Int)==0)=false:=beq_false_of_ne h1i;have h1n:¬T=[]:=fun e=>h1 (by rw[e];rfl);by_cases h2:20000<T.length
   ·have HC:Hid (checkT t=100):=zh (by rw[hc,if_pos (.inr h2)]);have h2i:(20000:Int)<(T.length:Int):=by omega
    clear hc;go_enter Tryz.func31,Tryz.ntmps31;go_wp2_with fail;refine CD.out.mono ?_;rintro e w1 ⟨rfl,b⟩;have b1:=Below.more b0 b;clear b;go_wp2_with fail;refine(CP.out w1 b1).mono ?_;rintro e w2 ⟨rfl,b⟩;have b2:=Below.more b1 b;clear b;go_wp2_with fail;go_ret;exact⟨ret_i (by rw[HC.out]),b2⟩
   ·have HC:Hid (checkT t=0):=zh (by rw[hc,if_neg (by rintro(e|e);exact h1 e;exact h2 e)]);have h2i:¬(20000:Int)<(T.length:Int):=by omega
    clear hc;go_enter Tryz.func31,Tryz.ntmps31;go_wp2_with fail;refine CD.out.mono ?_;rintro e w1 ⟨rfl,b⟩;have b1:=Below.more b0 b;clear b;go_wp2_with fail;refine(CP.out w1 b1).mono ?_;rintro e w2 ⟨rfl,b⟩;have b2:=Below.more b1 b;clear b;go_wp2_with fail;go_ret;exact⟨ret_i (by rw[HC.out]),b2⟩
end Go.Proofs.YtghioekjghmdaaaGreatDoor
set_option maxHeartbeats 4000000
set_option maxRecDepth 100000
namespace Go.Proofs.YtghioekjghmdaaaGreatDoor
open Go.RowKit
open Tm (Nd Tr okN arN treeOf checkT)
open Ev (rawN zF keysT spanN)
theorem ownX_nil(w:World)(B:Nat):OwnX B w (.slice none 0 0) []:=⟨(Nat.zero_mul 4).symm,.inl ⟨rfl,rfl⟩⟩
theorem raw_next{t:List Nd}{k:Nat}{x:Nd}(hx:t[k]?=some x):rawN (t.take (k+1))=rawN (t.take k)++spanN x:=by
 unfold rawN;rw[List.take_add_one,hx,List.flatMap_append];simp
theorem raw_len{t:List Nd}(h:∀x∈t,okN x=true)(k:Nat):(rawN (t.take k)).length≤60*t.length:=by
 have:=Ev.spans_len (t:=t.take k) fun x hx=>h x (List.mem_of_mem_take hx);have h2:(t.take k).length≤t.length:=by rw[List.length_take];omega
 unfold rawN;exact Nat.le_trans this (Nat.mul_le_mul_left _ h2)
theorem span_take{x:Nd}{j:Nat}(h:j<(spanN x).length):(spanN x).take (j+1)=(spanN x).take j++[(x.ast,x.a+(j:Int))]:=by
 have e:=Ev.span_get (List.getElem?_eq_getElem h);rw[List.take_add_one,List.getElem?_eq_getElem h,e];rfl
theorem span_nil{x:Nd}(h:¬(1≤x.op∧x.op≤4)):spanN x=[]:=by
 unfold spanN Ev.lastN;rw[if_neg (by omega),if_neg (by omega),show (x.a-1+1-x.a).toNat=0 by omega];rfl
theorem ast_prc{x:Nd}(h:okN x=true)(h0:0≤x.op)(h1:x.op≤12):(x.ast == [])=decide (¬(1≤x.op∧x.op≤4)):=by
 by_cases hp:1≤x.op∧x.op≤4
 ·rw[decide_eq_false (fun k=>k hp)];have k:Tm.astB x.ast=true:=by
   by_cases g:x.op=1
   ·exact(Tm.ok_px h g).2.1
   ·exact(Tm.ok_avg h (by omega)).2.1
  cases e:(x.ast == []) with
  | false=>rfl
  | true=>rw[beq_iff_eq.1 e]at k;exact absurd k (by decide)
 ·rw[decide_eq_true hp];have e:x.ast=[]:=by
   by_cases g:x.op=0
   ·rw[(Tm.ok_num h g).1]
   ·rw[Tm.ok_more h (by omega)];rfl
  rw[e];rfl
theorem ecompact_nil(w:World):Calls Tryz.prog 64 #[.slice none 0 0] w (fun e w'=>e=.returned (.slice none 0 0)∧w'=w):=by
 go_enter Tryz.func64,Tryz.ntmps64;go_wp2_with fail;go_ret;exact⟨rfl,rfl⟩
theorem eneeds_any(p:Option Addr)(c:Nat)(t:List Nd)(w:World)(hct:t.length≤c)(ht:t.length≤2000)(hok:∀x∈t,okN x=true∧0≤x.op∧x.op≤12)(hT:Nds w p t) :
  Calls Tryz.prog 33 #[.slice p t.length c] w (GiveX w ((keysT t).map zF)):=by
 have HT:=zh hT;have HK:=zh hok
 have HLN:=zh (raw_len fun x hx=>(hok x hx).1);clear hT hok;go_enter Tryz.func33,Tryz.ntmps33;go_wp2_with fail
 go_loopw [3,9] (fun ov iv wr=>∃k:Nat,k≤t.length∧iv=.int .i64 k∧OwnX w.heap.size wr ov ((rawN (t.take k)).map zF)∧Below w.heap.size w wr) (fun _ iv _=>t.length-(intOf iv).toNat)
 case atStart=>exact⟨0,Nat.zero_le _,rfl,ownX_nil _ _,Below.refl _ _⟩
 case round =>
  obtain⟨k,hk,rfl,hO,hw⟩:=hrel;have HO:=zh hO;have HW:=zh hw
  clear hO;by_cases hlt:k<t.length
  ·have hki:(k:Int)<(t.length:Int):=by omega
   obtain⟨x,hx⟩:∃x,t[k]?=some x:=⟨_,List.getElem?_eq_getElem hlt⟩;obtain⟨bp,op,rfl,k0,k1,k2,k3,k4,k5⟩:=nds_rule (HT.out.below hw) hx;have bw:=Below.refl wr.heap.size wr;have q0:=k0 _ bw;have q1:=k1 _ bw;have q2:=k2 _ bw;have q3:=k3 _ bw;have q4:=k4 _ bw;have q5:=k5 _ bw
   have HN:=zh (raw_next hx);obtain⟨ho1,ho2,ho3⟩:=HK.out x (List.mem_of_getElem? hx);have cp:=fun V=>epriced_any x.op x.a x.b x.num.1 x.num.2 x.ast V;rw[ast_prc ho1 ho2 ho3]at cp;clear k0 k1 k2 k3 k4 k5 hx bw
   go_upto_region 5 with fail
   obtain⟨U,hU,bU,s1,r0,r1,r2,r3,r4,r5⟩:=lay6 (Below.refl wr.heap.size wr) (.int .i64 x.op) (.string ⟨x.num.1.toArray⟩) (.string ⟨x.num.2.toArray⟩) (.string ⟨x.ast.toArray⟩) (.int .i64 x.a) (.int .i64 x.b) 55;rw[hU];have HS8:Hid (NdS wr.heap.size x U):=zh (by rw[←hU];exact nds_new wr x 55);have HNB:Hid (∀g,Value.ownBlock _=some g→g≠wr.heap.size):=zh fun g hg=>Nat.ne_of_lt (own_lt HO.out g hg).2;clear hU s1 q0 q1 q2 q3 q4 q5;have b0:=Below.refl U.heap.size U;have HU:=zh (Below.more HW.out bU);have hUw:=HU.out.size;have HOU:=zh (ownG_below HO.out bU);clear bU hw;generalize wr.heap.size=bn at *;by_cases hp:1≤x.op∧x.op≤4
   ·rw[decide_eq_false (fun k=>k hp)]at cp;have CP:=zh cp;have HM:=zh (Ev.span_m ho1 hp);have HD:=zh (Ev.days ho1 hp);clear cp hp ho2 ho3;go_wp2_with fail;refine(CP.out _).mono ?_;rintro e0 w1 ⟨rfl,b⟩;have b1:=Below.more b0 b;have HO1:=zh (ownG_below HOU.out b);have HS9:=zh (HS8.out.grown (grw_none b none) (by simp));have HB1:=zh (Below.more HU.out b1);clear b HS8 b0 b1 HOU HO HU hUw r0 r1 r2 r3 r4 r5;have rn0:∀v,NdS bn x v→v.cell? ⟨bn,0,none⟩=some (.int .i64 x.op):=fun v h=>h.c 0 _ rfl;have rn1:∀v,NdS bn x v→v.cell? ⟨bn,1,none⟩=some (.string ⟨x.num.1.toArray⟩):=fun v h=>h.c 1 _ rfl;have rn2:∀v,NdS bn x v→v.cell? ⟨bn,2,none⟩=some (.string ⟨x.num.2.toArray⟩):=fun v h=>h.c 2 _ rfl;have rn3:∀v,NdS bn x v→v.cell? ⟨bn,3,none⟩=some (.string ⟨x.ast.toArray⟩):=fun v h=>h.c 3 _ rfl;have rn4:∀v,NdS bn x v→v.cell? ⟨bn,4,none⟩=some (.int .i64 x.a):=fun v h=>h.c 4 _ rfl;have rn5:∀v,NdS bn x v→v.cell? ⟨bn,5,none⟩=some (.int .i64 x.b):=fun v h=>h.c 5 _ rfl;have hsn:=HS9.out;go_wp2_with fail;clear hsn
    go_loopw [3,6] (fun ov dv wv=>∃j:Nat,j≤(spanN x).length∧dv=.int .i64 (x.a+(j:Int))∧Hid (OwnX w.heap.size wv ov ((rawN (t.take k)++(spanN x).take j).map zF)∧(∀g,ov.ownBlock=some g→g≠bn)∧Below w.heap.size w wv)∧NdS bn x wv) (fun _ dv _=>(x.a+(spanN x).length-intOf dv).toNat)
    case atStart=>exact⟨0,Nat.zero_le _,by simp,zh ⟨by rw[List.take_zero,List.append_nil];exact HO1.out,HNB.out,HB1.out⟩,HS9.out⟩
    case round =>
     obtain⟨j,hj,rfl,HI,hsn⟩:=hrel;clear HO1 HB1 HS9 HNB;have hw3:IntKind.i64.wrap (x.a+(j:Int)+1)=x.a+(j:Int)+1:=IntWalk.i64_in _ (by have:=HM.out;have:=HD.out;omega);go_wp2_with fail;refine(elastP_any x.op x.a x.b x.num.1 x.num.2 x.ast _).mono ?_;rintro e0 w2 ⟨rfl,b⟩;have hsm:=hsn.grown (grw_none b none) (by simp);have HO3:=zh (ownG_below HI.out.1 b);have HB3:=zh (Below.more HI.out.2.2 b);have HNB:=zh HI.out.2.1;clear b hsn HI;by_cases hlj:j<(spanN x).length
     ·have hle:x.a+(j:Int)≤max x.a x.b:=by have:=HM.out;omega
      have HSP:=zh (span_take hlj);have HL2:Hid (((rawN (t.take k)++(spanN x).take j).map zF).length≤1000000∧w.heap.size≤w2.heap.size∧bn<w2.heap.size):=zh ⟨by
       rw[List.length_map,List.length_append,List.length_take];have:=HLN.out k;have:=HM.out;have:=HD.out;omega,HB3.out.size,hsm.lt⟩
      go_wp2_with (at_builtin;refine haltG ?_);show wpList _ _ _ _ _ _;refine wpList_append_G rfl _ _ 24 39 rfl Tryz.underlying24 fxInfo rfl (by decide) (by decide) (fun _=>rfl) encFx_one w.heap.size _ ((rawN (t.take k)++(spanN x).take j).map zF) rfl (World.ownsRow.alloc HO3.out _) ⟨w2.heap.size,0,none⟩ (zF (x.ast,x.a+(j:Int))) 1 rfl (rowsOne (enc:=encFx) (k:=4) w2 (zF (x.ast,x.a+(j:Int))) 39 _ rfl) (by have:=HL2.out.1;omega) (by have:=HL2.out.2.1;simp;omega) ?_;intro v3 w3 ho hg hloc;have HO4:=zh ho;have HB4:Hid (Below w.heap.size w w3):=zh (Below.grown (Below.alloc HB3.out HL2.out.2.1 _) hg (by have:=HL2.out.2.1;simp;omega) fun i hi=>(World.ownsRow.lt HO3.out i hi).1);have hsq:NdS bn x w3:=(hsm.grown (grw_none (Below.alloc (Below.refl _ _) (Nat.le_refl _) _) none) (by simp)).grown hg fun e=>HNB.out bn e rfl;have HN4:Hid (∀g,Value.ownBlock v3=some g→g≠bn):=zh fun g hg'=>by
       rcases hloc with e|e
       ·exact HNB.out g (e▸hg')
       ·have h1:some g=some _:=hg'.symm.trans e;have h2:=Option.some.inj h1;have h3:=HL2.out.2.2;simp at h2;omega
      clear ho hg hloc
      go_frame
      go_wp2_with fail;go_roundw
      case rel=>exact⟨j+1,by omega,by first|go_num|(congr 1;omega),zh ⟨by rw[HSP.out,← List.append_assoc,List.map_append];exact HO4.out,HN4.out,HB4.out⟩,hsq⟩
      case measure=>simp[intOf];omega
     ·obtain rfl:j=(spanN x).length:=by omega
      have hle:¬x.a+((spanN x).length:Int)≤max x.a x.b:=by have:=HM.out;omega
      have HO4:Hid (OwnX w.heap.size w2 _ ((rawN (t.take (k+1))).map zF)):=zh (by
       have:=HO3.out;rw[List.take_length,← HN.out]at this;exact this)
      go_wp2_with fail;go_roundw
      case rel=>exact⟨k+1,hlt,by go_num,HO4.out,HB3.out⟩
      case measure=>simp[intOf];omega
   ·rw[decide_eq_true hp]at cp;have CP:=zh cp;have HO4:=zh HOU.out;rw[show (rawN (t.take k)).map zF=(rawN (t.take (k+1))).map zF by rw[HN.out,span_nil hp,List.append_nil]]at HO4;clear cp hp ho2 ho3;go_wp2_with fail;refine(CP.out _).mono ?_;rintro e0 w1 ⟨rfl,b⟩;have HO5:=zh (ownG_below HO4.out b);have HB2:=zh (Below.more HU.out (Below.more b0 b));go_wp2_with fail;go_roundw
    case rel=>exact⟨k+1,hlt,by go_num,HO5.out,HB2.out⟩
    case measure=>simp[intOf];omega
  ·obtain rfl:k=t.length:=by omega
   have hki:¬(t.length:Int)<(t.length:Int):=by omega
   have HO1:=zh HO.out;rw[List.take_length]at HO1;have HL1:=zh (HLN.out t.length);rw[List.take_length]at HL1;go_wp2_with fail;refine(esort_any _ _ _ HO1.out (by rw[List.length_map];have:=HL1.out;omega)).mono ?_;rintro e0 w1 ⟨rfl,⟨rfl,h0,rfl⟩|⟨g,cs,d,rfl,hcs,hgB,hg,hpm,hso,hH,hgr⟩⟩
   ·have HK0:Hid ((keysT t).map zF=[]):=zh (by
     have:=Ev.comp_keys (t:=t) (s:=[]) (by rw[h0]) List.Pairwise.nil;exact this.symm)
    go_wp2_with fail;refine(ecompact_nil _).mono ?_;rintro e0 w2 ⟨rfl,rfl⟩;go_wp2_with fail;go_ret;exact⟨⟨none,0,by rw[HK0.out];rfl,by rw[HK0.out];exact Nat.le_refl _,by rw[HK0.out];exact RowsG.nil _ _⟩,HW.out⟩
   ·have HKK:Hid (Go.Lib.compact d.toList=(keysT t).map zF):=zh (Ev.comp_keys hpm hso);have hzr:∀x∈d.toList,x.2=Ev.zR:=fun x hx=>by
     obtain⟨y,_,rfl⟩:=List.mem_map.1 (hpm.mem_iff.1 hx);rfl
    have hdl:d.toList.length=d.size:=Array.length_toList;have hll:=hpm.length_eq;rw[List.length_map]at hll;have cc:=ecompact_any g cs d.toList w1 hzr (by omega) (by have:=HL1.out;omega) (rwC_of hH hg);rw[hdl,HKK.out]at cc;have CC:=zh cc;have HBW:Hid (Below w.heap.size w w1∧w.heap.size≤w1.heap.size):=zh ⟨Below.grown HW.out hgr HW.out.size (fun i hi=>by obtain rfl:=Option.some.inj hi;exact hgB),Nat.le_trans HW.out.size hgr.size⟩;have HGB:=zh hgB;have HLC:Hid (((keysT t).map zF).length≤cs):=zh (by rw[←HKK.out];have:=Ev.comp_len (s:=d.toList);omega);clear cc hpm hso hH hgr hzr hdl hll hcs hgB;go_wp2_with fail;refine CC.out.mono ?_;rintro e0 w2 ⟨rfl,hr,hwr⟩;have HR:=zh hr;have HWR:=zh hwr
    clear hr hwr;go_wp2_with fail;go_ret;exact⟨⟨_,_,by rw[List.length_map];rfl,HLC.out,HR.out⟩,HBW.out.1.trans (HWR.out.below (fun i hi=>by rw[List.mem_singleton.1 hi];exact HGB.out) HBW.out.2)⟩
end Go.Proofs.YtghioekjghmdaaaGreatDoor
