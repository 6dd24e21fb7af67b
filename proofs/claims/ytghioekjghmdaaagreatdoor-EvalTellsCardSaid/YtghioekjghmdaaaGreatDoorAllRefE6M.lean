/- Own work. -/
import Derived.Test.YtghioekjghmdaaaGreatDoorAllEv6M
import Derived.Test.YtghioekjghmdaaaGreatDoorAllRefE3
import Derived.Test.YtghioekjghmdaaaGreatDoorAllRefE4M
set_option linter.unusedSimpArgs false
set_option linter.unusedVariables false
set_option maxHeartbeats 4000000
set_option maxRecDepth 100000
namespace Go.Proofs.YtghioekjghmdaaaGreatDoor
open Go.RowKit
open Tm (Nd Tr okN arN treeOf checkT)
open Ev (zF keysT)
theorem elack1_any(x:Fx.Fix)(bx:Nat)(p:Option Addr)(c:Nat)(l:List Fx.Fix)(w:World)(hc:l.length≤c)(hl:l.length≤1000000)(hs:l.Pairwise fun x y=>Fx.lessF x.1 y.1=true)(h:Fxs w p l)(hb:bx<w.heap.size)(hx:w.cell? ⟨bx,0,none⟩=some (.slice p l.length c)) :
  Calls Tryz.prog 58 #[.agg #[.string ⟨x.1.1.toArray⟩,.int .i64 x.1.2,.string ⟨x.2.1.toArray⟩,.string ⟨x.2.2.toArray⟩],.pointer (some ⟨bx,0,none⟩)] w (GiveB w (!Fx.thereF l x.1)):=by
 obtain⟨⟨a,d⟩,⟨n,e⟩⟩:=x;have CF:=zh fun V (hV:Below w.heap.size w V)=>efind_any p c l a d n e V hc hl (h.below hV);have hx2:=fun v (hv:Below w.heap.size w v)=>(hv.cell (p:=⟨bx,0,none⟩) hb).trans hx;have HS:=zh hs;clear h hs hx;go_enter Tryz.func58,Tryz.ntmps58
 go_upto_region 1 with fail
 obtain⟨U,hU,bU,s1,r0,r1,r2,r3⟩:=lay4 (Below.refl w.heap.size w) (.string ⟨a.toArray⟩) (.int .i64 d) (.string ⟨n.toArray⟩) (.string ⟨e.toArray⟩) 39;rw[hU];clear hU s1;have hx3:=hx2 U bU;have b0:=Below.refl U.heap.size U;go_wp2_with fail;refine(CF.out _ bU).mono ?_;rintro e0 w1 ⟨⟨i,z,rfl,g1,g2,g3⟩,b⟩;have hz:=(g3 HS.out).2;subst hz;have b1:=Below.more bU b;clear b g1 g2 g3;generalize Fx.thereF l (a,d)=z at *;go_wp2_with fail;go_ret;exact⟨rfl,b1⟩
theorem eidx_any(P:Fx.Fix→Bool)(bx:Nat)(p:Option Addr)(c:Nat)(L:List Fx.Fix)(w:World)(hc:L.length≤c)(hl:L.length≤1000000)(h:Fxs w p L)
  (CC:Hid (∀V (x:Fx.Fix),Below w.heap.size w V→Calls Tryz.prog 58 #[.agg #[.string ⟨x.1.1.toArray⟩,.int .i64 x.1.2,.string ⟨x.2.1.toArray⟩,.string ⟨x.2.2.toArray⟩],.pointer (some ⟨bx,0,none⟩)] V (GiveB V (P x)))) :
  Calls Tryz.prog 100 #[.slice p L.length c,.func (.func 58) #[] #[.pointer (some ⟨bx,0,none⟩)]] w (fun e w'=>(∃z:Int,e=.returned (.int .i64 z)∧decide (0≤z)=L.any P)∧Below w.heap.size w w'):=by
 have HS:=zh h;clear h;go_enter Tryz.func100,Tryz.ntmps100
 go_wp2
 go_loopw [8] (fun i wr=>∃k:Nat,k≤L.length∧i=.int .i64 k∧Hid (∀ (j:Nat) (y:Fx.Fix),j<k→L[j]?=some y→P y=false)∧Below w.heap.size w wr) (fun i _=>L.length-(intOf i).toNat)
 case atStart=>exact⟨0,Nat.zero_le _,rfl,fun j z h=>absurd h (Nat.not_lt_zero j),Below.refl _ _⟩
 case round =>
  obtain⟨k,hk,rfl,HJ,hw⟩:=hrel;have HW:=zh hw;by_cases hlt:k<L.length
  ·obtain⟨x,hx⟩:∃x,L[k]?=some x:=⟨_,List.getElem?_eq_getElem hlt⟩;have cc:=CC.out wr x hw;have HX:=zh hx;obtain⟨⟨a,d⟩,⟨n,e⟩⟩:=x;obtain⟨b',o',rfl,k0,k1,k2,k3⟩:=fx_rule (HS.out.below hw) hx;dsimp only at cc;have bw:=Below.refl wr.heap.size wr;have q0:=k0 _ bw;have q1:=k1 _ bw;have q2:=k2 _ bw;have q3:=k3 _ bw
   cases hp:P ((a,d),(n,e)) with
   | false =>
    rw[hp]at cc;have CK:=zh cc;have HN:Hid (∀ (j:Nat) (y:Fx.Fix),j<k+1→L[j]?=some y→P y=false):=zh (moreK (P:=fun _ y=>P y=false) HJ.out HX.out hp);clear cc hx hw bw k0 k1 k2 k3 hp;go_wp2_with fail;refine CK.out.mono ?_;rintro e w1 ⟨rfl,b1⟩;go_wp2_with fail;go_roundw
    case rel=>exact⟨k+1,hlt,by go_num,HN.out,Below.more HW.out b1⟩
    case measure=>simp[intOf];omega
   | true =>
    rw[hp]at cc;have CK:=zh cc;have HO:Hid (decide (0≤(k:Int))=L.any P):=zh (by
     rw[decide_eq_true (by omega)];exact(List.any_eq_true.2 ⟨_,List.mem_of_getElem? HX.out,hp⟩).symm)
    clear cc hx hw bw k0 k1 k2 k3 hp;go_wp2_with fail;refine CK.out.mono ?_;rintro e w1 ⟨rfl,b1⟩;go_wp2_with fail;go_ret;exact⟨⟨_,rfl,HO.out⟩,Below.more HW.out b1⟩
  ·obtain rfl:k=L.length:=by omega
   have HO:Hid (decide (0≤(-1:Int))=L.any P):=zh (by
    cases e:L.any P with
    | false=>rfl
    | true =>
     obtain⟨y,hy,hp⟩:=List.any_eq_true.1 e;obtain⟨j,hj⟩:=List.mem_iff_getElem?.1 hy;rw[HJ.out j y (List.getElem?_eq_some_iff.1 hj).1 hj]at hp;cases hp)
   clear hw;go_wp2_with fail;go_ret;exact⟨⟨_,rfl,HO.out⟩,HW.out⟩
theorem elacks_any(q:Option Addr)(d:Nat)(l:List Fx.Fix)(p:Option Addr)(c:Nat)(L:List Fx.Fix)(w:World)(hd:l.length≤d)(hl:l.length≤1000000)(hs:l.Pairwise fun x y=>Fx.lessF x.1 y.1=true)(h:Fxs w q l)(hc:L.length≤c)(hL:L.length≤1000000)(hT:Fxs w p L) :
  Calls Tryz.prog 32 #[.slice q l.length d,.slice p L.length c] w (GiveB w (L.any fun x=>!Fx.thereF l x.1)):=by
 have cf:∀V,Below w.heap.size w V→w.heap.size<V.heap.size→V.cell? ⟨w.heap.size,0,none⟩=some (.slice q l.length d)→Calls Tryz.prog 57 #[.slice p L.length c,.func (.func 58) #[] #[.pointer (some ⟨w.heap.size,0,none⟩)]] V (GiveB V (L.any fun x=>!Fx.thereF l x.1)):=fun V hV hlt hcell=>by
  have CI:=zh (eidx_any (fun x=>!Fx.thereF l x.1) w.heap.size p c L V hc hL (hT.below hV) (zh fun V' x hV'=>elack1_any x w.heap.size q d l V' hd hl hs (h.below (Below.more hV hV')) (Nat.lt_of_lt_of_le hlt hV'.size) ((hV'.cell (p:=⟨w.heap.size,0,none⟩) hlt).trans hcell)));generalize w.heap.size=bx at *;generalize (L.any fun x=>!Fx.thereF l x.1)=r at *;clear hV hlt hcell;go_enter Tryz.func57,Tryz.ntmps57;go_wp2_with fail;refine CI.out.mono ?_;rintro e0 w1 ⟨⟨z,rfl,hz⟩,b⟩;have HZ:=zh hz;clear hz;by_cases h0:0≤z
  ·have HQ:=zh h0;go_wp2_with fail;go_ret;exact⟨ret_bool (by rw[←HZ.out,decide_eq_true (by have:=HQ.out;omega)];first|done|rfl),b⟩
  ·have HQ:=zh h0;go_wp2_with fail;go_ret;exact⟨ret_bool (by rw[←HZ.out,decide_eq_false (by have:=HQ.out;omega)];first|done|rfl),b⟩
 have CFH:=zh cf;clear cf hs h hT;generalize (L.any fun x=>!Fx.thereF l x.1)=r at *;go_enter Tryz.func32,Tryz.ntmps32
 go_upto_region 1 with fail
 obtain⟨U,hU,bU,hlt,hcl⟩:∃U,w.alloc (.cells #[.slice q l.length d] 24)=U∧Below w.heap.size w U∧w.heap.size<U.heap.size∧U.cell? ⟨w.heap.size,0,none⟩=some (.slice q l.length d):=⟨_,rfl,Below.alloc (Below.refl _ _) (Nat.le_refl _) _,by simp,cell_new _ _ _ _ rfl 0⟩;rw[hU];clear hU;go_wp2_with fail;refine(CFH.out _ bU hlt hcl).mono ?_;rintro e0 w1 ⟨rfl,b⟩;go_wp2_with fail;go_ret;exact⟨rfl,Below.more bU b⟩
theorem wf_ar:∀ {t:Tr},t.wf→∀x∈t.flat,0≤x.op∧x.op≤12
 | .t0 y,h,x,hx=>by
  rw[List.mem_singleton.1 hx];have:=(Tm.ar_zero y.op).1 h;omega
 | .t1 y a,h,x,hx=>by
  simp only[Tr.flat,List.mem_append,List.mem_singleton]at hx;rcases hx with hx|hx
  ·exact wf_ar h.2 x hx
  ·rw[hx];have:=Tm.ops1 h.1;omega
 | .t2 y a b,h,x,hx=>by
  simp only[Tr.flat,List.mem_append,List.mem_singleton]at hx;rcases hx with hx|hx|hx
  ·exact wf_ar h.2.1 x hx
  ·exact wf_ar h.2.2 x hx
  ·rw[hx];have:=Tm.ops2 h.1;omega
 | .t3 y a b c,h,x,hx=>by
  simp only[Tr.flat,List.mem_append,List.mem_singleton]at hx;rcases hx with hx|hx|hx|hx
  ·exact wf_ar h.2.1 x hx
  ·exact wf_ar h.2.2.1 x hx
  ·exact wf_ar h.2.2.2 x hx
  ·rw[hx];have:=Tm.ops3 h.1;omega
theorem check_ok{t:List Nd}(h:checkT t=0):∀x∈t,okN x=true∧0≤x.op∧x.op≤12:=fun x hx=>by
 obtain⟨tr,_,h2,h3,h4⟩:=Ev.check_inv h;rw[←h3]at hx;exact⟨h4 x hx,wf_ar h2 x hx⟩
theorem giveX_nil(w w':World)(h:Below w.heap.size w w'):GiveX w [] (.returned (.slice none 0 0)) w':=⟨⟨none,0,rfl,Nat.le_refl _,RowsG.nil _ _⟩,h⟩
theorem eNeeds_any(p:Option Addr)(c:Nat)(t:List Nd)(w:World)(hct:t.length≤c)(ht:t.length≤2000)(hz:∀x∈t,SzN x)(hT:Nds w p t)(hg:GoodX w) :
  Calls Tryz.prog 14 #[.slice p t.length c] w (GiveX w ((Ev.needsK t).map fun k=>(k,([],[])))):=by
 have CC:=zh (tcheck_any p c t w ht hz hg hT);rcases Tm.check_two t with h|h
 ·have HE:Hid ((Ev.needsK t).map (fun k=>(k,(([],[]):Key)))=(keysT t).map zF):=zh (by unfold Ev.needsK;rw[if_pos h];rfl);have CN:=zh fun V (hV:Below w.heap.size w V)=>eneeds_any p c t V hct ht (check_ok h) (hT.below hV);rw[h]at CC;clear hz hT hg h;go_enter Tryz.func14,Tryz.ntmps14;go_wp2_with fail;refine CC.out.mono ?_;rintro e0 w1 ⟨rfl,b⟩;go_wp2_with fail;refine(CN.out _ b).mono ?_;rintro e0 w2 ⟨⟨q,d,rfl,hd,hr⟩,b2⟩;have HD:=zh hd;have HR:=zh hr;have HB:=zh (Below.more b b2)
  clear hd hr b b2;go_wp2_with fail;go_ret;exact⟨⟨q,d,by rw[HE.out,List.length_map];rfl,by rw[HE.out];exact HD.out,by rw[HE.out];exact HR.out⟩,HB.out⟩
 ·have HE:Hid ((Ev.needsK t).map (fun k=>(k,(([],[]):Key)))=[]):=zh (by unfold Ev.needsK;rw[if_neg (by rw[h];decide)];rfl);rw[h]at CC;clear hz hT hg h;go_enter Tryz.func14,Tryz.ntmps14;go_wp2_with fail;refine CC.out.mono ?_;rintro e0 w1 ⟨rfl,b⟩;have HB:=zh b;go_wp2_with fail;go_ret;exact HE.out▸giveX_nil _ _ HB.out
theorem eEval_any(D:Nat)(p:Option Addr)(c:Nat)(t:List Nd)(q:Option Addr)(d:Nat)(l:List Fx.Fix)(w:World)(hct:t.length≤c)(ht:t.length≤2000)(hz:∀x∈t,SzN x)(hld:l.length≤d)(hl:l.length≤1000)(hzl:∀x∈l,x.2.1.length≤D∧x.2.2.length≤D∧x.1.1.length≤1000)(hzx:∀x∈l,SzX x)(hD:∀tr,treeOf t=some tr→Ev.dgT D tr≤19000)(hT:Nds w p t)(h:Fxs w q l)(hg:GoodX w) :
  Calls Tryz.prog 11 #[.slice p t.length c,.slice q l.length d] w (GiveRE w (Ev.evalE t l)):=by
 have CM:=zh fun V (hV:Below w.heap.size w V)=>ffmay_any q d l V hld (by omega) hzx (h.below hV);have CC:=zh fun V (hV:Below w.heap.size w V)=>tcheck_any p c t V ht hz (hg.below hV) (hT.below hV)
 cases hm:Fx.mayF l with
 | false =>
  have HE:Hid (Ev.evalE t l=(([],[]),1)):=zh (by unfold Ev.evalE;rw[if_pos hm];rfl);rw[hm]at CM;clear CC hz hzl hzx hD hT h hg hm;go_enter Tryz.func11,Tryz.ntmps11;go_wp2_with fail;obtain⟨W,hW,BW,sW,r0,r1,r2,r3⟩:=box0z w (.string ⟨#[]⟩) (.string ⟨#[]⟩) 28;rw[hW];clear hW;have b0:=Below.refl W.heap.size W;refine(CM.out _ BW).mono ?_;rintro e0 w1 ⟨rfl,b⟩;have b1:=Below.more b0 b;clear b;go_wp2_with fail;refine bodyPost_ret (v:=.tuple #[.agg #[.string ⟨#[]⟩,.string ⟨#[]⟩],.int .i64 1]) (by simp[results,Tryz.results11,go_sem, *]) rfl ⟨by rw[HE.out],put2 (Below.more BW b1) (Nat.le_refl _) _ _⟩
 | true =>
 rw[hm]at CM;rcases Tm.check_two t with hk|hk
 rotate_left 1
 ·have HE:Hid (Ev.evalE t l=(([],[]),100)):=zh (by unfold Ev.evalE;rw[if_neg (by rw[hm];decide),if_pos (by rw[hk];decide)];rfl);rw[hk]at CC;clear hz hzl hzx hD hT h hg hm hk;go_enter Tryz.func11,Tryz.ntmps11;go_wp2_with fail;obtain⟨W,hW,BW,sW,r0,r1,r2,r3⟩:=box0z w (.string ⟨#[]⟩) (.string ⟨#[]⟩) 28;rw[hW];clear hW;have b0:=Below.refl W.heap.size W;refine(CM.out _ BW).mono ?_;rintro e0 w1 ⟨rfl,b⟩;have b1:=Below.more b0 b;clear b;go_wp2_with fail;refine(CC.out _ (Below.more BW b1)).mono ?_;rintro e0 w2 ⟨rfl,b⟩;have b2:=Below.more b1 b;clear b;go_wp2_with fail;refine bodyPost_ret (v:=.tuple #[.agg #[.string ⟨#[]⟩,.string ⟨#[]⟩],.int .i64 100]) (by simp[results,Tryz.results11,go_sem, *]) rfl ⟨by rw[HE.out],put2 (Below.more BW b2) (Nat.le_refl _) _ _⟩
 have hgf:=Fx.good_iffF.1 hm;have hok:=check_ok hk;rw[hk]at CC;have CN:=zh fun V (hV:Below w.heap.size w V)=>eneeds_any p c t V hct ht hok (hT.below hV);have CL:=zh fun (V:World) (pn:Option Addr) (cn:Nat) (hV:Below w.heap.size w V) (hcn:((keysT t).map zF).length≤cn) (hrn:Fxs V pn ((keysT t).map zF))=>(show Calls Tryz.prog 32 #[.slice q l.length d,.slice pn ((keysT t).map zF).length cn] V (GiveB V (Ev.lackB l t)) by
  have k:=elacks_any q d l pn cn ((keysT t).map zF) V hld (by omega) hgf.2 (h.below hV) hcn (by rw[List.length_map];have:=Ev.keys_len fun x hx=>(hok x hx).1;omega) hrn;rw[Ev.lack_there hgf]at k;exact k)
 cases hlk:Ev.lackB l t with
 | true =>
  have HE:Hid (Ev.evalE t l=(([],[]),130)):=zh (by rw[Ev.eval_may hm hk,if_pos hlk];rfl);rw[hlk]at CL;clear hz hzl hzx hD hT h hg hm hk hgf hok hlk;go_enter Tryz.func11,Tryz.ntmps11;go_wp2_with fail;obtain⟨W,hW,BW,sW,r0,r1,r2,r3⟩:=box0z w (.string ⟨#[]⟩) (.string ⟨#[]⟩) 28;rw[hW];clear hW;have b0:=Below.refl W.heap.size W;refine(CM.out _ BW).mono ?_;rintro e0 w1 ⟨rfl,b⟩;have b1:=Below.more b0 b;clear b;go_wp2_with fail;refine(CC.out _ (Below.more BW b1)).mono ?_;rintro e0 w2 ⟨rfl,b⟩;have b2:=Below.more b1 b;clear b;go_wp2_with fail;refine(CN.out _ (Below.more BW b2)).mono ?_;rintro e0 w3 ⟨⟨pn,cn,rfl,hcn,hrn⟩,b⟩;have b3:=Below.more b2 b;have CLK:=zh (CL.out w3 pn cn (Below.more BW b3) hcn hrn);clear b hcn hrn;rw[List.length_map]at CLK ⊢;go_wp2_with fail;refine CLK.out.mono ?_;rintro e0 w4 ⟨rfl,b⟩;have b4:=Below.more b3 b;clear b CLK;go_wp2_with fail;refine bodyPost_ret (v:=.tuple #[.agg #[.string ⟨#[]⟩,.string ⟨#[]⟩],.int .i64 130]) (by simp[results,Tryz.results11,go_sem, *]) rfl ⟨by rw[HE.out],put2 (Below.more BW b4) (Nat.le_refl _) _ _⟩
 | false =>
  obtain⟨tr,htr,_⟩:=Ev.check_inv hk;have CR:=zh fun V (hV:Below w.heap.size w V)=>ereck_any (D:=D) p c t tr q d l V htr (fun x hx=>(hok x hx).1) hct ht (hD tr htr) hld hl hgf (fun x hx=>⟨(hzl x hx).1,(hzl x hx).2.1⟩) hlk (hT.below hV) (h.below hV) (hg.below hV);have he:Ev.evalE t l=Ev.endQ (Ev.valT l tr):=by rw[Ev.eval_may hm hk,if_neg (by rw[hlk];decide),htr]
  rw[hlk]at CL
  cases hv:Ev.valT l tr with
  | none =>
   have HE:Hid (Ev.evalE t l=(([],[]),131)):=zh (by rw[he,hv];rfl);have cr:=CR.out;rw[hv]at cr;replace CR:Hid (∀V,Below w.heap.size w V→Calls Tryz.prog 34 #[.slice p t.length c,.slice q l.length d] V (GiveRB V ((([],[]):Key),false))):=zh cr;clear hz hzl hzx hD hT h hg hm hk hgf hok hlk he hv htr cr;go_enter Tryz.func11,Tryz.ntmps11;go_wp2_with fail;obtain⟨W,hW,BW,sW,r0,r1,r2,r3⟩:=box0z w (.string ⟨#[]⟩) (.string ⟨#[]⟩) 28;rw[hW];clear hW;have b0:=Below.refl W.heap.size W;refine(CM.out _ BW).mono ?_;rintro e0 w1 ⟨rfl,b⟩;have b1:=Below.more b0 b;clear b;go_wp2_with fail;refine(CC.out _ (Below.more BW b1)).mono ?_;rintro e0 w2 ⟨rfl,b⟩;have b2:=Below.more b1 b;clear b;go_wp2_with fail;refine(CN.out _ (Below.more BW b2)).mono ?_;rintro e0 w3 ⟨⟨pn,cn,rfl,hcn,hrn⟩,b⟩;have b3:=Below.more b2 b;have CLK:=zh (CL.out w3 pn cn (Below.more BW b3) hcn hrn);clear b hcn hrn;rw[List.length_map]at CLK ⊢;go_wp2_with fail;refine CLK.out.mono ?_;rintro e0 w4 ⟨rfl,b⟩;have b4:=Below.more b3 b;clear b CLK;go_wp2_with fail;refine(CR.out _ (Below.more BW b4)).mono ?_;rintro e0 w5 ⟨rfl,b⟩;have b5:=Below.more b4 b;have ba:=fun x=>Below.alloc b5 b5.size x;clear b;go_wp2_with fail;refine bodyPost_ret (v:=.tuple #[.agg #[.string ⟨#[]⟩,.string ⟨#[]⟩],.int .i64 131]) (by simp[results,Tryz.results11,go_sem, *]) rfl ⟨by rw[HE.out],put2 (Below.more BW (ba _)) (Nat.le_refl _) _ _⟩
  | some y =>
   have HE:Hid (Ev.evalE t l=(rd y,0)):=zh (by rw[he,hv];rfl);have cr:=CR.out;rw[hv]at cr;replace CR:Hid (∀V,Below w.heap.size w V→Calls Tryz.prog 34 #[.slice p t.length c,.slice q l.length d] V (GiveRB V (rd y,true))):=zh cr;clear hz hzl hzx hD hT h hg hm hk hgf hok hlk he hv htr cr;go_enter Tryz.func11,Tryz.ntmps11;go_wp2_with fail;obtain⟨W,hW,BW,sW,r0,r1,r2,r3⟩:=box0z w (.string ⟨#[]⟩) (.string ⟨#[]⟩) 28;rw[hW];clear hW;have b0:=Below.refl W.heap.size W;refine(CM.out _ BW).mono ?_;rintro e0 w1 ⟨rfl,b⟩;have b1:=Below.more b0 b;clear b;go_wp2_with fail;refine(CC.out _ (Below.more BW b1)).mono ?_;rintro e0 w2 ⟨rfl,b⟩;have b2:=Below.more b1 b;clear b;go_wp2_with fail;refine(CN.out _ (Below.more BW b2)).mono ?_;rintro e0 w3 ⟨⟨pn,cn,rfl,hcn,hrn⟩,b⟩;have b3:=Below.more b2 b;have CLK:=zh (CL.out w3 pn cn (Below.more BW b3) hcn hrn);clear b hcn hrn;rw[List.length_map]at CLK ⊢;go_wp2_with fail;refine CLK.out.mono ?_;rintro e0 w4 ⟨rfl,b⟩;have b4:=Below.more b3 b;clear b CLK;go_wp2_with fail;refine(CR.out _ (Below.more BW b4)).mono ?_;rintro e0 w5 ⟨rfl,b⟩;have b5:=Below.more b4 b;have ba:=fun x=>Below.alloc b5 b5.size x;clear b;go_wp2_with fail;refine bodyPost_ret (v:=.tuple #[.agg #[.string ⟨(rd y).1.toArray⟩,.string ⟨(rd y).2.toArray⟩],.int .i64 0]) (by simp[results,Tryz.results11,go_sem, *]) rfl ⟨by rw[HE.out],put2 (Below.more BW (ba _)) (Nat.le_refl _) _ _⟩
theorem evalC:EvalC GoodX where
 below:=fun h hb=>h.below hb
 needs:=fun p c t w hc ht hz hT hg=>eNeeds_any p c t w hc ht hz hT hg
 eval:=fun D hDl p c t q d l w hc ht hz hd hl hzl hD hT h hg=>eEval_any D p c t q d l w hc ht hz hd hl hzl (fun x hx=>⟨by have:=(hzl x hx).2.2;omega,by have:=(hzl x hx).1;omega,by have:=(hzl x hx).2.1;omega⟩) hD hT h hg
end Go.Proofs.YtghioekjghmdaaaGreatDoor
set_option maxHeartbeats 4000000
set_option maxRecDepth 100000
namespace Go.Proofs.YtghioekjghmdaaaGreatDoor
open Go.RowKit
open Tm (Nd okN checkT)
open Ev (zf insK SortK keysT spanN lastN needsK)
theorem ok_days{x:Nd}(h:okN x=true):(0≤x.a∧x.a≤9999)∧lastN x≤9999:=by
 by_cases h1:1≤x.op∧x.op≤4
 ·have k:=Ev.days h h1;rw[Ev.last_max h h1];omega
 ·have ha:x.a=0:=by
   by_cases h0:x.op=0
   ·rw[(Tm.ok_num h h0).1]
   ·rw[Tm.ok_more h (by omega)];rfl
  unfold lastN;rw[if_neg (by omega),if_neg (by omega)];omega
theorem span_M(x:Nd):(spanN x).length=(lastN x+1-x.a).toNat:=by unfold spanN;rw[List.length_map,List.length_range]
theorem keys_next{t:List Nd}{k:Nat}{x:Nd}(hx:t[k]?=some x):keysT (t.take (k+1))=(spanN x).foldl insK (keysT (t.take k)):=by
 unfold keysT;rw[List.take_add_one,hx,Option.toList_some,List.flatMap_append,List.foldl_append,List.flatMap_singleton]
theorem fold_next{x:Nd}{j:Nat}(hj:j<(spanN x).length)(L:List Fx.FK):((spanN x).take (j+1)).foldl insK L=insK (((spanN x).take j).foldl insK L) (x.ast,x.a+(j:Int)):=by
 rw[List.take_add_one,List.getElem?_eq_getElem hj,Option.toList_some,List.foldl_append,← Ev.span_get (List.getElem?_eq_getElem hj)]
 rfl
theorem keys_small{t:List Nd}(hok:∀x∈t,okN x=true)(ht:t.length≤2000)(k j:Nat){x:Nd}(hx:x∈t):SortK (((spanN x).take j).foldl insK (keysT (t.take k)))∧(((spanN x).take j).foldl insK (keysT (t.take k))).length≤1000000:=by
 refine⟨Ev.fold_sort (Ev.keys_sort _),?_⟩;have h1:=Ev.fold_len (m:=(spanN x).take j) (l:=keysT (t.take k));have h2:=Ev.keys_len (t:=t.take k) fun y hy=>hok y (List.mem_of_mem_take hy);have h3:=Ev.span_len (hok x hx);have h4:((spanN x).take j).length≤(spanN x).length:=by rw[List.length_take];exact Nat.min_le_right ..
 have h6:(t.take k).length≤t.length:=by rw[List.length_take];exact Nat.min_le_right ..
 omega
theorem rneeds_any(p:Option Addr)(c:Nat)(t:List Nd)(w:World)(hct:t.length≤c)(ht:t.length≤2000)(hz:∀x∈t,SzN x)(hT:Nds w p t) :
  Calls Tryz.prog 15 #[.slice p t.length c] w (GiveX w ((needsK t).map zf)):=by
 have ck:=fun V (hV:Below w.heap.size w V)=>rtcheck_any p c t V (zh fun x hx=>by have:=(hz x hx).1;omega) (hT.below hV);by_cases h0:checkT t=0
 ·have hok:=check_ok h0;have hN:needsK t=keysT t:=by unfold needsK;rw[if_pos h0]
  rw[h0]at ck;rw[hN];have CK:=zh ck;have HT:=zh hT;have HOK:=zh fun x hx=>(hok x hx).1
  clear hok hN h0 ck hT hz;go_enter Tryz.func15,Tryz.ntmps15;go_wp2_with fail
  go_loopw [3,4] (fun out iv wr=>∃ (k:Nat) (q:Option Addr) (cq:Nat),k≤t.length∧iv=.int .i64 k∧out=.slice q (keysT (t.take k)).length cq∧Hid ((keysT (t.take k)).length≤cq∧Fxs wr q ((keysT (t.take k)).map zf))∧Below w.heap.size w wr) (fun _ iv _=>t.length-(intOf iv).toNat)
  case atStart=>exact⟨0,_,0,Nat.zero_le _,rfl,rfl,zh ⟨Nat.le_refl _,RowsG.nil _ _⟩,Below.alloc (Below.refl _ _) (Nat.le_refl _) _⟩
  case round =>
   obtain⟨k,q,cq,hk,rfl,rfl,HF,hw⟩:=hrel;by_cases hlt:k<t.length
   ·have hki:(k:Int)<(t.length:Int):=by omega
    obtain⟨x,hx⟩:∃x,t[k]?=some x:=⟨_,List.getElem?_eq_getElem hlt⟩;have hm:=List.mem_of_getElem? hx;have HX:=zh hx;obtain⟨b,o,rfl,k0,k1,k2,k3,k4,k5⟩:=nds_rule HT.out hx;have hd:=ok_days (HOK.out x hm);have HM:=zh (span_M x);have HSM:=zh fun j=>keys_small HOK.out ht k j hm;have CL:Hid (∀V,Calls Tryz.prog 38 #[.agg #[.int .i64 x.op,.string ⟨x.num.1.toArray⟩,.string ⟨x.num.2.toArray⟩,.string ⟨x.ast.toArray⟩,.int .i64 x.a,.int .i64 x.b]] V (GiveI V (lastN x))):=zh (fun V=>elast_any x.op x.num.1 x.num.2 x.ast x.a x.b V hd.1.1 (by omega));clear hx hm;go_wp2_with fail;refine(CK.out _ hw).mono ?_;rintro e0 w1 ⟨rfl,b⟩;have hw1:=Below.more hw b;have HF1:=zh (And.intro HF.out.1 (HF.out.2.below b));clear b hw HF;go_wp2_with fail
    go_loopw [3,5] (fun out dv wr=>∃ (j:Nat) (q:Option Addr) (cq:Nat),j≤(spanN x).length∧dv=.int .i64 (x.a+j)∧out=.slice q (((spanN x).take j).foldl insK (keysT (t.take k))).length cq∧Hid ((((spanN x).take j).foldl insK (keysT (t.take k))).length≤cq∧Fxs wr q ((((spanN x).take j).foldl insK (keysT (t.take k))).map zf))∧Below w.heap.size w wr) (fun _ dv _=>(spanN x).length-(intOf dv-x.a).toNat)
    case atStart=>exact⟨0,q,cq,Nat.zero_le _,by simp,rfl,HF1,hw1⟩
    case round =>
     clear HF1 hw1;obtain⟨j,q2,cq2,hj,rfl,rfl,HF2,hw2⟩:=hrel;by_cases hjt:j<(spanN x).length
     ·have hle:x.a+(j:Int)≤lastN x:=by have:=HM.out;omega
      have hw9:IntKind.i64.wrap (x.a+(j:Int)+1)=x.a+(j:Int)+1:=IntWalk.i64_in _ (by omega);have HNX:=zh (fold_next hjt (keysT (t.take k)));have HS:=HSM.out j;generalize ((spanN x).take j).foldl insK (keysT (t.take k))=L at *;have HS2:=zh HS;clear HS;go_wp2_with fail;refine(CL.out _).mono ?_;rintro e1 w3 ⟨rfl,b⟩;have hw3:=Below.more hw2 b;have HF3:Hid (Fxs w3 q2 (L.map zf)):=zh (HF2.out.2.below b);clear b hw2;go_wp2_with fail;refine(rewith_any q2 cq2 L x.ast (x.a+(j:Int)) w3 HF2.out.1 HS2.out.2 HS2.out.1 HF3.out).mono ?_;rintro e1 w4 ⟨⟨q5,c5,rfl,hc5,hF5⟩,b⟩;have hw4:=Below.more hw3 b;rw[List.length_map]at hc5 ⊢;have HF5:=zh (And.intro hc5 hF5);clear b hw3 HF2 HF3 HS2 hc5 hF5;go_wp2_with fail;go_roundw
      case rel=>exact⟨j+1,q5,c5,hjt,by go_num,by rw[HNX.out],by rw[HNX.out];exact HF5,hw4⟩
      case measure=>simp[intOf];omega
     ·have hje:j=(spanN x).length:=by omega
      have hnl:¬x.a+(j:Int)≤lastN x:=by have:=HM.out;omega
      have HNX:=zh (keys_next HX.out);rw[hje,List.take_length,← HNX.out]at HF2 ⊢;rw[hje]at hnl;clear hje;go_wp2_with fail;refine(CL.out _).mono ?_;rintro e1 w3 ⟨rfl,b⟩;have hw3:=Below.more hw2 b;have HF3:=zh (And.intro HF2.out.1 (HF2.out.2.below b));clear b hw2 HF2;go_wp2_with fail;go_roundw
      case rel=>exact⟨k+1,q2,cq2,hlt,by go_num,rfl,HF3,hw3⟩
      case measure=>simp[intOf];omega
   ·obtain rfl:k=t.length:=by omega
    have hki:¬(t.length:Int)<(t.length:Int):=by omega
    rw[List.take_length]at HF ⊢;go_wp2_with fail;refine bodyPost_ret (v:=.slice q (keysT t).length cq) (by simp[results,Tryz.results15,go_sem, *]) rfl ?_;exact⟨⟨q,cq,by rw[List.length_map],by rw[List.length_map];exact HF.out.1,HF.out.2⟩,hw⟩
 ·have hN:needsK t=[]:=by unfold needsK;rw[if_neg h0]
  rw[hN];have CK:=zh ck;clear hN ck hT hz;go_enter Tryz.func15,Tryz.ntmps15;go_wp2_with fail
  go_loopw [3,4] (fun out iv wr=>∃ (q:Option Addr),iv=.int .i64 0∧out=.slice q 0 0∧Below w.heap.size w wr) (fun _ _ _=>0)
  case atStart=>exact⟨_,rfl,rfl,Below.alloc (Below.refl _ _) (Nat.le_refl _) _⟩
  case round =>
   obtain⟨q,rfl,rfl,hw⟩:=hrel;by_cases hlt:0<(t.length:Int)
   ·go_wp2_with fail;refine(CK.out _ hw).mono ?_;rintro e0 w1 ⟨rfl,b⟩;have hw1:=Below.more hw b;clear b hw;go_wp2_with fail;refine bodyPost_ret (v:=.slice q 0 0) (by simp[results,Tryz.results15,go_sem, *]) rfl ?_;exact⟨⟨q,0,rfl,Nat.le_refl _,RowsG.nil _ _⟩,hw1⟩
   ·go_wp2_with fail;refine bodyPost_ret (v:=.slice q 0 0) (by simp[results,Tryz.results15,go_sem, *]) rfl ?_;exact⟨⟨q,0,rfl,Nat.le_refl _,RowsG.nil _ _⟩,hw⟩
end Go.Proofs.YtghioekjghmdaaaGreatDoor
set_option maxHeartbeats 4000000
set_option maxRecDepth 100000
namespace Go.Proofs.YtghioekjghmdaaaGreatDoor
open Go.RowKit
open Tm (Nd Tr okN arN arI checkT treeOf stk mkT)
open Ev (zf keysT spanN lastN needsK leafQ upQ stepV valT Dg)
def prV(l:List Fx.Fix)(s:List UInt8)(d:Int):Rat:=valR ((Fx.rawF l (s,d)).getD ([48],[49]))
theorem prV_of{l:List Fx.Fix}(hl:Fx.GoodF l)(s:List UInt8)(d:Int):isR ((Fx.rawF l (s,d)).getD ([48],[49]))=true∧((Fx.rawF l (s,d)).getD ([48],[49])=([48],[49])∨∃f∈l,f.2=(Fx.rawF l (s,d)).getD ([48],[49])):=by
 cases e:Fx.rawF l (s,d) with
 | none=>exact⟨(by decide +kernel:isR (([48],[49]):Key)=true),.inl rfl⟩
 | some q =>
  have hm:=Fx.raw_some e;exact⟨Ev.good_isR hl hm,.inr ⟨_,hm,rfl⟩⟩
theorem prV_rd{l:List Fx.Fix}(hl:Fx.GoodF l)(s:List UInt8)(d:Int):rd (prV l s d)=(Fx.rawF l (s,d)).getD ([48],[49]):=rd_valR (prV_of hl s d).1
theorem prV_dg{D:Nat}(hD:0<D)(hk:D≤10000){l:List Fx.Fix}(hl:Fx.GoodF l)(hz:Ev.SzP D l)(s:List UInt8)(d:Int):Dg D (prV l s d):=by
 obtain⟨h1,h2⟩:=prV_of hl s d;unfold prV;rcases h2 with e|⟨f,hf,e⟩
 ·exact Ev.dg_text h1 (by rw[e];exact hD) (by rw[e];exact hD) hk
 ·exact Ev.dg_text h1 (by rw[←e];exact(hz f hf).1) (by rw[←e];exact(hz f hf).2) hk
theorem prV_is{l:List Fx.Fix}{k:Fx.FK}(h:(Fx.rawF l k).isSome=true):Ev.priceK l k=prV l k.1 k.2:=by
 unfold prV Ev.priceK
 cases e:Fx.rawF l k with
 | none=>rw[e]at h;cases h
 | some q=>rfl
def lfK(l:List Fx.Fix)(x:Nd):Key:=if x.op=0 then x.num else leafR x.op (prV l x.ast x.a) (psF (prV l x.ast) x.a (spanN x).length)
theorem lfK_leaf{l:List Fx.Fix}{x:Nd}(hx:okN x=true)(h0:arN x.op=some 0)(ht:∀k∈spanN x,(Fx.rawF l k).isSome=true):lfK l x=rd (leafQ l x):=by
 have ho:=(Tm.ar_zero x.op).1 h0;unfold lfK leafQ;by_cases h:x.op=0
 ·rw[if_pos h,if_pos h];exact(rd_valR (Tm.ok_num hx h).2.1).symm
 rw[if_neg h,if_neg h];have e:(spanN x).map (Ev.priceK l)=psF (prV l x.ast) x.a (spanN x).length:=by
  have hh:∀i∈List.range (lastN x+1-x.a).toNat,Ev.priceK l (x.ast,x.a+((i:Nat):Int))=prV l x.ast (x.a+((i:Nat):Int)):=fun i hi=>prV_is (ht _ (List.mem_map.2 ⟨i,hi,rfl⟩));rw[span_M];unfold psF spanN;rw[List.map_map];exact List.map_congr_left hh
 have hf:=Ev.span_first hx (by omega);have e0:Ev.priceK l (x.ast,x.a)=prV l x.ast x.a:=prV_is (ht _ hf);have hn:¬(psF (prV l x.ast) x.a (spanN x).length).length=0:=by
  rw[pF_len];intro h;rw[List.length_eq_zero_iff.1 h]at hf
  cases hf
 rw[e,e0];unfold leafR Ev.leafV;by_cases h3:x.op=3
 ·rw[if_pos h3,if_pos h3]
 rw[if_neg h3,if_neg h3];by_cases h4:x.op=4
 ·rw[if_pos h4,if_pos h4]
 rw[if_neg h4,if_neg h4,if_neg hn]
theorem eleaf_0(nn ee s:List UInt8)(a b:Int)(p:Option Addr)(c m:Nat)(w:World):Calls Tryz.prog 36 #[.agg #[.int .i64 0,.string ⟨nn.toArray⟩,.string ⟨ee.toArray⟩,.string ⟨s.toArray⟩,.int .i64 a,.int .i64 b],.slice p m c] w (GiveR w (nn,ee)):=by
 go_enter Tryz.func36,Tryz.ntmps36;go_wp2_with fail;refine bodyPost_ret (v:=.agg #[.string ⟨nn.toArray⟩,.string ⟨ee.toArray⟩]) (by simp[results,Tryz.results36,go_sem, *]) rfl ⟨rfl,?_⟩;exact up_alloc (Below.alloc (Below.refl _ _) (Nat.le_refl _) _) _
theorem rleaf_any{D:Nat}(hD0:0<D)(hD:60*D+4≤18000)(x:Nd)(hx:okN x=true)(q:Option Addr)(d:Nat)(l:List Fx.Fix)(w:World)(hl:l.length≤1000)(hg:Fx.GoodF l)(hz:Ev.SzP D l)(h:Fxs w q l):Calls Tryz.prog 36 #[.agg #[.int .i64 x.op,.string ⟨x.num.1.toArray⟩,.string ⟨x.num.2.toArray⟩,.string ⟨x.ast.toArray⟩,.int .i64 x.a,.int .i64 x.b],.slice q l.length d] w (GiveR w (lfK l x)):=by
 unfold lfK;by_cases h0:x.op=0
 ·rw[if_pos h0,h0];exact eleaf_0 _ _ _ _ _ _ _ _ _
 ·rw[if_neg h0];have hd:=ok_days hx;exact eleaf_any hD x.op x.num.1 x.num.2 x.ast x.a x.b (lastN x) (prV l x.ast) (spanN x).length q d l.length w h0 hd.1 rfl (span_M x).symm (Ev.span_len hx) (fun dd=>prV_dg hD0 (by omega) hg hz _ _) (fun V hV dd=>by rw[prV_rd hg];exact eprice_any q d l x.ast dd V (by omega) (h.below hV))
theorem eabove_any(op:Int)(q:List Rat)(p:Option Addr)(c:Nat)(w:World)(ha:arN op=some q.length)(hn:q≠[])(hq:∀y∈q,ShQ y)(h:Qs w p q):Calls Tryz.prog 37 #[.int .i64 op,.slice p q.length c] w (GiveRB w (vB (upQ op q))):=by
 match q,ha,hn,hq,h with
 | [],_,hn,_,_=>exact absurd rfl hn
 | [y],ha,_,hq,h =>
  obtain rfl:op=5:=Tm.ops1 ha;exact eab5 (hq y (by simp)) p c w h
 | [y,z],ha,_,hq,h =>
  have hy:=hq y (by simp);have hz:=hq z (by simp)
  rcases(show op=6∨op=7∨op=8∨op=9∨op=10∨op=11 by have:=Tm.ops2 ha;omega) with rfl|rfl|rfl|rfl|rfl|rfl
  ·exact eab6 hy hz p c w h
  ·exact eab7 hy hz p c w h
  ·exact eab8 hy hz p c w h
  ·exact eab9 hy hz p c w h
  ·exact eab10 hy hz p c w h
  ·exact eab11 hy hz p c w h
 | [y,z,s],ha,_,hq,h =>
  obtain rfl:op=12:=Tm.ops3 ha;exact eab12 (hq y (by simp)) p c w h
 | _::_::_::_::_,ha,_,_,_=>have:=Tm.arN_le ha;simp only[List.length_cons]at this;omega
theorem reck_facts{D:Nat}(hD0:0<D)(hDD:60*D+4≤18000){t:List Nd}{tr:Tr}{l:List Fx.Fix}(htr:treeOf t=some tr)(hok:∀x∈t,okN x=true)(ht:t.length≤2000)(hD:Ev.dgT D tr≤18900)(hgf:Fx.GoodF l)(hz:Ev.SzP D l)(hlk:Ev.lackB l t=false) :
  stk t t.length=some [tr]∧(∀ (k:Nat) (st:List Tr) (x:Nd),t[k]?=some x→stk t k=some st→∃m,arN x.op=some m∧m≤st.length)∧(∀x∈t,∀k∈spanN x,(Fx.rawF l k).isSome=true) ∧
  (∀ (k:Nat) (st:List Tr) (r:List Rat),k≤t.length→stk t k=some st→st.map (valT l)=r.map some→∀y∈r,ShQ y):=by
 have hsk:stk t t.length=some [tr]:=by
  have hw:=Tm.tree_inv htr;have e:=Tm.run_flat (f:=mkT) tr [] hw.1;rw[hw.2,Tm.fold_self]at e;unfold Tm.stk;rw[List.take_length];exact e
 have hthere:∀x∈t,∀k∈spanN x,(Fx.rawF l k).isSome=true:=fun x hx k hk=>by
  cases e:Fx.rawF l k with
  | some _=>rfl
  | none =>
   have:=Ev.lack_iff.2 ⟨k,Ev.keys_mem.2 ⟨x,hx,hk⟩,e⟩;rw[hlk]at this;cases this
 refine⟨hsk,fun k st x hx hst=>?_,hthere,fun k st r hk hst hv y hy=>?_⟩
 ·have hf:Tm.formB t=true:=by
   have hw:=Tm.tree_inv htr;rw[←hw.2];exact Tm.form_flat hw.1 (by rw[hw.2];exact ht)
  exact Tm.form_step hf hx hst
 ·obtain⟨s,hs1,hs2⟩:=List.mem_map.1 (show some y∈st.map (valT l) by rw[hv];exact List.mem_map.2 ⟨y,hy,rfl⟩);have h1:=Ev.dg_end (D:=D) hsk (t.length-k) k st (by omega) hst s hs1;have hwf:=(Tm.stk_flat hst).2 s hs1;have hdg:=Ev.val_dg0 (D:=D) hwf (fun z hzf h0=>by
   have hzt:z∈t:=by
    have e:=(Tm.stk_flat hst).1;have:z∈(st.map Tr.flat).flatten:=List.mem_flatten.2 ⟨s.flat,List.mem_map.2 ⟨s,hs1,rfl⟩,hzf⟩;rw[e]at this;exact List.mem_of_mem_take this
   exact Ev.leaf_dg hD0 (by omega) hgf hz (hok z hzt) h0) hs2
  have:=hdg.len;exact⟨by omega,by omega⟩
end Go.Proofs.YtghioekjghmdaaaGreatDoor
