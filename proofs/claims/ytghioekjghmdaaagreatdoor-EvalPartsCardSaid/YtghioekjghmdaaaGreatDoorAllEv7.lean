/- Own work. -/
import Derived.Test.YtghioekjghmdaaaGreatDoorAllEv6M
set_option linter.unusedSimpArgs false
set_option linter.unusedVariables false
set_option maxHeartbeats 4000000
set_option maxRecDepth 100000
namespace Go.Proofs.YtghioekjghmdaaaGreatDoor
open Go.RowKit
open Tm (Nd Tr okN arN treeOf checkT)
open Ev (zF keysT)
theorem elack1_any(x:Fx.Fix)(bx:Nat)(p:Option Addr)(c:Nat)(l:List Fx.Fix)(w:World)(hc:l.length≤c)(hl:l.length≤1000000)(hs:l.Pairwise fun x y=>Fx.lessF x.1 y.1=true)(h:Fxs w p l)(hb:bx<w.heap.size)(hx:w.cell? ⟨bx,0,none⟩=some (.slice p l.length c)) :
  Calls Tryz.prog 58 #[.agg #[.string ⟨x.1.1.toArray⟩,.int .i64 x.1.2,.string ⟨x.2.1.toArray⟩,.string ⟨x.2.2.toArray⟩],.pointer (some ⟨bx,0,none⟩)] w (GiveB w (!Fx.thereF l x.1)):=by
 obtain⟨⟨a,d⟩,⟨n,e⟩⟩:=x;have CF:=zh fun V (hV:Below w.heap.size w V)=>efind_any p c l a d n e V hc hl (h.below hV);have hx2:=fun v (hv:Below w.heap.size w v)=>(hv.cell (p:=⟨bx,0,none⟩) hb).trans hx;have HS:=zh hs;clear h hs hx;go_enter Tryz.func58,Tryz.ntmps58
 go_upto_region 1 with fail
 obtain⟨U,hU,bU,s1,r0,r1,r2,r3⟩:=lay4 (Below.refl w.heap.size w) (.string ⟨a.toArray⟩) (.int .i64 d) (.string ⟨n.toArray⟩) (.string ⟨e.toArray⟩) 39;rw[hU];clear hU s1;have hx3:=hx2 U bU;have b0:=Below.refl U.heap.size U;go_wp2_with fail;refine(CF.out _ bU).mono ?_;rintro e0 w1 ⟨⟨i,z,rfl,g1,g2,g3⟩,b⟩;have hz:=(g3 HS.out).2;subst hz;have b1:=Below.more bU b;clear b g1 g2 g3;generalize Fx.thereF l (a,d)=z at *;go_wp2_with fail;go_ret;exact⟨rfl,b1⟩
theorem eidx_any(P:Fx.Fix→Bool)(bx:Nat)(p:Option Addr)(c:Nat)(L:List Fx.Fix)(w:World)(hc:L.length≤c)(hl:L.length≤1000000)(h:Fxs w p L)
  (CC:Hid (∀V (x:Fx.Fix),Below w.heap.size w V→Calls Tryz.prog 58 #[.agg #[.string ⟨x.1.1.toArray⟩,.int .i64 x.1.2,.string ⟨x.2.1.toArray⟩,.string ⟨x.2.2.toArray⟩],.pointer (some ⟨bx,0,none⟩)] V (GiveB V (P x)))) :
  Calls Tryz.prog 100 #[.slice p L.length c,.func (.func 58) #[] #[.pointer (some ⟨bx,0,none⟩)]] w (fun e w'=>(∃z:Int,e=.returned (.int .i64 z)∧decide (0≤z)=L.any P)∧Below w.heap.size w w'):=by
 have HS:=zh h;clear h;go_enter Tryz.func100,Tryz.ntmps100
 go_wp2
 go_loopw [8] (fun i wr=>∃k:Nat,k≤L.length∧i=.int .i64 k∧Hid (∀ (j:Nat) (y:Fx.Fix),j<k→L[j]?=some y→P y=false)∧Below w.heap.size w wr) (fun i _=>L.length-(intOf i).toNat)
 case atStart=>exact⟨0,Nat.zero_le _,rfl,fun j z h=>absurd h (Nat.not_lt_zero j),Below.refl _ _⟩
 case round =>
  obtain⟨k,hk,rfl,HJ,hw⟩:=hrel;have HW:=zh hw;by_cases hlt:k<L.length
  ·obtain⟨x,hx⟩:∃x,L[k]?=some x:=⟨_,List.getElem?_eq_getElem hlt⟩;have cc:=CC.out wr x hw;have HX:=zh hx;obtain⟨⟨a,d⟩,⟨n,e⟩⟩:=x;obtain⟨b',o',rfl,k0,k1,k2,k3⟩:=fx_rule (HS.out.below hw) hx;dsimp only at cc;have bw:=Below.refl wr.heap.size wr;have q0:=k0 _ bw;have q1:=k1 _ bw;have q2:=k2 _ bw;have q3:=k3 _ bw
   cases hp:P ((a,d),(n,e)) with
   | false =>
    rw[hp]at cc;have CK:=zh cc;have HN:Hid (∀ (j:Nat) (y:Fx.Fix),j<k+1→L[j]?=some y→P y=false):=zh (moreK (P:=fun _ y=>P y=false) HJ.out HX.out hp);clear cc hx hw bw k0 k1 k2 k3 hp;go_wp2_with fail;refine CK.out.mono ?_;rintro e w1 ⟨rfl,b1⟩;go_wp2_with fail;go_roundw
    case rel=>exact⟨k+1,hlt,by go_num,HN.out,Below.more HW.out b1⟩
    case measure=>simp[intOf];omega
   | true =>
    rw[hp]at cc;have CK:=zh cc;have HO:Hid (decide (0≤(k:Int))=L.any P):=zh (by
     rw[decide_eq_true (by omega)];exact(List.any_eq_true.2 ⟨_,List.mem_of_getElem? HX.out,hp⟩).symm)
    clear cc hx hw bw k0 k1 k2 k3 hp;go_wp2_with fail;refine CK.out.mono ?_;rintro e w1 ⟨rfl,b1⟩;go_wp2_with fail;go_ret;exact⟨⟨_,rfl,HO.out⟩,Below.more HW.out b1⟩
  ·obtain rfl:k=L.length:=by omega
   have HO:Hid (decide (0≤(-1:Int))=L.any P):=zh (by
    cases e:L.any P with
    | false=>rfl
    | true =>
     obtain⟨y,hy,hp⟩:=List.any_eq_true.1 e;obtain⟨j,hj⟩:=List.mem_iff_getElem?.1 hy;rw[HJ.out j y (List.getElem?_eq_some_iff.1 hj).1 hj]at hp;cases hp)
   clear hw;go_wp2_with fail;go_ret;exact⟨⟨_,rfl,HO.out⟩,HW.out⟩
theorem elacks_any(q:Option Addr)(d:Nat)(l:List Fx.Fix)(p:Option Addr)(c:Nat)(L:List Fx.Fix)(w:World)(hd:l.length≤d)(hl:l.length≤1000000)(hs:l.Pairwise fun x y=>Fx.lessF x.1 y.1=true)(h:Fxs w q l)(hc:L.length≤c)(hL:L.length≤1000000)(hT:Fxs w p L) :
  Calls Tryz.prog 32 #[.slice q l.length d,.slice p L.length c] w (GiveB w (L.any fun x=>!Fx.thereF l x.1)):=by
 have cf:∀V,Below w.heap.size w V→w.heap.size<V.heap.size→V.cell? ⟨w.heap.size,0,none⟩=some (.slice q l.length d)→Calls Tryz.prog 57 #[.slice p L.length c,.func (.func 58) #[] #[.pointer (some ⟨w.heap.size,0,none⟩)]] V (GiveB V (L.any fun x=>!Fx.thereF l x.1)):=fun V hV hlt hcell=>by
  have CI:=zh (eidx_any (fun x=>!Fx.thereF l x.1) w.heap.size p c L V hc hL (hT.below hV) (zh fun V' x hV'=>elack1_any x w.heap.size q d l V' hd hl hs (h.below (Below.more hV hV')) (Nat.lt_of_lt_of_le hlt hV'.size) ((hV'.cell (p:=⟨w.heap.size,0,none⟩) hlt).trans hcell)));generalize w.heap.size=bx at *;generalize (L.any fun x=>!Fx.thereF l x.1)=r at *;clear hV hlt hcell;go_enter Tryz.func57,Tryz.ntmps57;go_wp2_with fail;refine CI.out.mono ?_;rintro e0 w1 ⟨⟨z,rfl,hz⟩,b⟩;have HZ:=zh hz;clear hz;by_cases h0:0≤z
  ·have HQ:=zh h0;go_wp2_with fail;go_ret;exact⟨ret_bool (by rw[←HZ.out,decide_eq_true (by have:=HQ.out;omega)];first|done|rfl),b⟩
  ·have HQ:=zh h0;go_wp2_with fail;go_ret;exact⟨ret_bool (by rw[←HZ.out,decide_eq_false (by have:=HQ.out;omega)];first|done|rfl),b⟩
 have CFH:=zh cf;clear cf hs h hT;generalize (L.any fun x=>!Fx.thereF l x.1)=r at *;go_enter Tryz.func32,Tryz.ntmps32
 go_upto_region 1 with fail
 obtain⟨U,hU,bU,hlt,hcl⟩:∃U,w.alloc (.cells #[.slice q l.length d] 24)=U∧Below w.heap.size w U∧w.heap.size<U.heap.size∧U.cell? ⟨w.heap.size,0,none⟩=some (.slice q l.length d):=⟨_,rfl,Below.alloc (Below.refl _ _) (Nat.le_refl _) _,by simp,cell_new _ _ _ _ rfl 0⟩;rw[hU];clear hU;go_wp2_with fail;refine(CFH.out _ bU hlt hcl).mono ?_;rintro e0 w1 ⟨rfl,b⟩;go_wp2_with fail;go_ret;exact⟨rfl,Below.more bU b⟩
theorem wf_ar:∀ {t:Tr},t.wf→∀x∈t.flat,0≤x.op∧x.op≤12
 | .t0 y,h,x,hx=>by
  rw[List.mem_singleton.1 hx];have:=(Tm.ar_zero y.op).1 h;omega
 | .t1 y a,h,x,hx=>by
  simp only[Tr.flat,List.mem_append,List.mem_singleton]at hx;rcases hx with hx|hx
  ·exact wf_ar h.2 x hx
  ·rw[hx];have:=Tm.ops1 h.1;omega
 | .t2 y a b,h,x,hx=>by
  simp only[Tr.flat,List.mem_append,List.mem_singleton]at hx;rcases hx with hx|hx|hx
  ·exact wf_ar h.2.1 x hx
  ·exact wf_ar h.2.2 x hx
  ·rw[hx];have:=Tm.ops2 h.1;omega
 | .t3 y a b c,h,x,hx=>by
  simp only[Tr.flat,List.mem_append,List.mem_singleton]at hx;rcases hx with hx|hx|hx|hx
  ·exact wf_ar h.2.1 x hx
  ·exact wf_ar h.2.2.1 x hx
  ·exact wf_ar h.2.2.2 x hx
  ·rw[hx];have:=Tm.ops3 h.1;omega
theorem check_ok{t:List Nd}(h:checkT t=0):∀x∈t,okN x=true∧0≤x.op∧x.op≤12:=fun x hx=>by
 obtain⟨tr,_,h2,h3,h4⟩:=Ev.check_inv h;rw[←h3]at hx;exact⟨h4 x hx,wf_ar h2 x hx⟩
theorem giveX_nil(w w':World)(h:Below w.heap.size w w'):GiveX w [] (.returned (.slice none 0 0)) w':=⟨⟨none,0,rfl,Nat.le_refl _,RowsG.nil _ _⟩,h⟩
theorem eNeeds_any(p:Option Addr)(c:Nat)(t:List Nd)(w:World)(hct:t.length≤c)(ht:t.length≤2000)(hz:∀x∈t,SzN x)(hT:Nds w p t)(hg:GoodX w) :
  Calls Tryz.prog 14 #[.slice p t.length c] w (GiveX w ((Ev.needsK t).map fun k=>(k,([],[])))):=by
 have CC:=zh (tcheck_any p c t w ht hz hg hT);rcases Tm.check_two t with h|h
 ·have HE:Hid ((Ev.needsK t).map (fun k=>(k,(([],[]):Key)))=(keysT t).map zF):=zh (by unfold Ev.needsK;rw[if_pos h];rfl);have CN:=zh fun V (hV:Below w.heap.size w V)=>eneeds_any p c t V hct ht (check_ok h) (hT.below hV);rw[h]at CC;clear hz hT hg h;go_enter Tryz.func14,Tryz.ntmps14;go_wp2_with fail;refine CC.out.mono ?_;rintro e0 w1 ⟨rfl,b⟩;go_wp2_with fail;refine(CN.out _ b).mono ?_;rintro e0 w2 ⟨⟨q,d,rfl,hd,hr⟩,b2⟩;have HD:=zh hd;have HR:=zh hr;have HB:=zh (Below.more b b2)
  clear hd hr b b2;go_wp2_with fail;go_ret;exact⟨⟨q,d,by rw[HE.out,List.length_map];rfl,by rw[HE.out];exact HD.out,by rw[HE.out];exact HR.out⟩,HB.out⟩
 ·have HE:Hid ((Ev.needsK t).map (fun k=>(k,(([],[]):Key)))=[]):=zh (by unfold Ev.needsK;rw[if_neg (by rw[h];decide)];rfl);rw[h]at CC;clear hz hT hg h;go_enter Tryz.func14,Tryz.ntmps14;go_wp2_with fail;refine CC.out.mono ?_;rintro e0 w1 ⟨rfl,b⟩;have HB:=zh b;go_wp2_with fail;go_ret;exact HE.out▸giveX_nil _ _ HB.out
theorem eEval_any(D:Nat)(p:Option Addr)(c:Nat)(t:List Nd)(q:Option Addr)(d:Nat)(l:List Fx.Fix)(w:World)(hct:t.length≤c)(ht:t.length≤2000)(hz:∀x∈t,SzN x)(hld:l.length≤d)(hl:l.length≤1000)(hzl:∀x∈l,x.2.1.length≤D∧x.2.2.length≤D∧x.1.1.length≤1000)(hzx:∀x∈l,SzX x)(hD:∀tr,treeOf t=some tr→Ev.dgT D tr≤19000)(hT:Nds w p t)(h:Fxs w q l)(hg:GoodX w) :
  Calls Tryz.prog 11 #[.slice p t.length c,.slice q l.length d] w (GiveRE w (Ev.evalE t l)):=by
 have CM:=zh fun V (hV:Below w.heap.size w V)=>ffmay_any q d l V hld (by omega) hzx (h.below hV);have CC:=zh fun V (hV:Below w.heap.size w V)=>tcheck_any p c t V ht hz (hg.below hV) (hT.below hV)
 cases hm:Fx.mayF l with
 | false =>
  have HE:Hid (Ev.evalE t l=(([],[]),1)):=zh (by unfold Ev.evalE;rw[if_pos hm];rfl);rw[hm]at CM;clear CC hz hzl hzx hD hT h hg hm;go_enter Tryz.func11,Tryz.ntmps11;go_wp2_with fail;obtain⟨W,hW,BW,sW,r0,r1,r2,r3⟩:=box0z w (.string ⟨#[]⟩) (.string ⟨#[]⟩) 28;rw[hW];clear hW;have b0:=Below.refl W.heap.size W;refine(CM.out _ BW).mono ?_;rintro e0 w1 ⟨rfl,b⟩;have b1:=Below.more b0 b;clear b;go_wp2_with fail;refine bodyPost_ret (v:=.tuple #[.agg #[.string ⟨#[]⟩,.string ⟨#[]⟩],.int .i64 1]) (by simp[results,Tryz.results11,go_sem, *]) rfl ⟨by rw[HE.out],put2 (Below.more BW b1) (Nat.le_refl _) _ _⟩
 | true =>
 rw[hm]at CM;rcases Tm.check_two t with hk|hk
 rotate_left 1
 ·have HE:Hid (Ev.evalE t l=(([],[]),100)):=zh (by unfold Ev.evalE;rw[if_neg (by rw[hm];decide),if_pos (by rw[hk];decide)];rfl);rw[hk]at CC;clear hz hzl hzx hD hT h hg hm hk;go_enter Tryz.func11,Tryz.ntmps11;go_wp2_with fail;obtain⟨W,hW,BW,sW,r0,r1,r2,r3⟩:=box0z w (.string ⟨#[]⟩) (.string ⟨#[]⟩) 28;rw[hW];clear hW;have b0:=Below.refl W.heap.size W;refine(CM.out _ BW).mono ?_;rintro e0 w1 ⟨rfl,b⟩;have b1:=Below.more b0 b;clear b;go_wp2_with fail;refine(CC.out _ (Below.more BW b1)).mono ?_;rintro e0 w2 ⟨rfl,b⟩;have b2:=Below.more b1 b;clear b;go_wp2_with fail;refine bodyPost_ret (v:=.tuple #[.agg #[.string ⟨#[]⟩,.string ⟨#[]⟩],.int .i64 100]) (by simp[results,Tryz.results11,go_sem, *]) rfl ⟨by rw[HE.out],put2 (Below.more BW b2) (Nat.le_refl _) _ _⟩
 have hgf:=Fx.good_iffF.1 hm;have hok:=check_ok hk;rw[hk]at CC;have CN:=zh fun V (hV:Below w.heap.size w V)=>eneeds_any p c t V hct ht hok (hT.below hV);have CL:=zh fun (V:World) (pn:Option Addr) (cn:Nat) (hV:Below w.heap.size w V) (hcn:((keysT t).map zF).length≤cn) (hrn:Fxs V pn ((keysT t).map zF))=>(show Calls Tryz.prog 32 #[.slice q l.length d,.slice pn ((keysT t).map zF).length cn] V (GiveB V (Ev.lackB l t)) by
  have k:=elacks_any q d l pn cn ((keysT t).map zF) V hld (by omega) hgf.2 (h.below hV) hcn (by rw[List.length_map];have:=Ev.keys_len fun x hx=>(hok x hx).1;omega) hrn;rw[Ev.lack_there hgf]at k;exact k)
 cases hlk:Ev.lackB l t with
 | true =>
  have HE:Hid (Ev.evalE t l=(([],[]),130)):=zh (by rw[Ev.eval_may hm hk,if_pos hlk];rfl);rw[hlk]at CL;clear hz hzl hzx hD hT h hg hm hk hgf hok hlk;go_enter Tryz.func11,Tryz.ntmps11;go_wp2_with fail;obtain⟨W,hW,BW,sW,r0,r1,r2,r3⟩:=box0z w (.string ⟨#[]⟩) (.string ⟨#[]⟩) 28;rw[hW];clear hW;have b0:=Below.refl W.heap.size W;refine(CM.out _ BW).mono ?_;rintro e0 w1 ⟨rfl,b⟩;have b1:=Below.more b0 b;clear b;go_wp2_with fail;refine(CC.out _ (Below.more BW b1)).mono ?_;rintro e0 w2 ⟨rfl,b⟩;have b2:=Below.more b1 b;clear b;go_wp2_with fail;refine(CN.out _ (Below.more BW b2)).mono ?_;rintro e0 w3 ⟨⟨pn,cn,rfl,hcn,hrn⟩,b⟩;have b3:=Below.more b2 b;have CLK:=zh (CL.out w3 pn cn (Below.more BW b3) hcn hrn);clear b hcn hrn;rw[List.length_map]at CLK ⊢;go_wp2_with fail;refine CLK.out.mono ?_;rintro e0 w4 ⟨rfl,b⟩;have b4:=Below.more b3 b;clear b CLK;go_wp2_with fail;refine bodyPost_ret (v:=.tuple #[.agg #[.string ⟨#[]⟩,.string ⟨#[]⟩],.int .i64 130]) (by simp[results,Tryz.results11,go_sem, *]) rfl ⟨by rw[HE.out],put2 (Below.more BW b4) (Nat.le_refl _) _ _⟩
 | false =>
  obtain⟨tr,htr,_⟩:=Ev.check_inv hk;have CR:=zh fun V (hV:Below w.heap.size w V)=>ereck_any (D:=D) p c t tr q d l V htr (fun x hx=>(hok x hx).1) hct ht (hD tr htr) hld hl hgf (fun x hx=>⟨(hzl x hx).1,(hzl x hx).2.1⟩) hlk (hT.below hV) (h.below hV) (hg.below hV);have he:Ev.evalE t l=Ev.endQ (Ev.valT l tr):=by rw[Ev.eval_may hm hk,if_neg (by rw[hlk];decide),htr]
  rw[hlk]at CL
  cases hv:Ev.valT l tr with
  | none =>
   have HE:Hid (Ev.evalE t l=(([],[]),131)):=zh (by rw[he,hv];rfl);have cr:=CR.out;rw[hv]at cr;replace CR:Hid (∀V,Below w.heap.size w V→Calls Tryz.prog 34 #[.slice p t.length c,.slice q l.length d] V (GiveRB V ((([],[]):Key),false))):=zh cr;clear hz hzl hzx hD hT h hg hm hk hgf hok hlk he hv htr cr;go_enter Tryz.func11,Tryz.ntmps11;go_wp2_with fail;obtain⟨W,hW,BW,sW,r0,r1,r2,r3⟩:=box0z w (.string ⟨#[]⟩) (.string ⟨#[]⟩) 28;rw[hW];clear hW;have b0:=Below.refl W.heap.size W;refine(CM.out _ BW).mono ?_;rintro e0 w1 ⟨rfl,b⟩;have b1:=Below.more b0 b;clear b;go_wp2_with fail;refine(CC.out _ (Below.more BW b1)).mono ?_;rintro e0 w2 ⟨rfl,b⟩;have b2:=Below.more b1 b;clear b;go_wp2_with fail;refine(CN.out _ (Below.more BW b2)).mono ?_;rintro e0 w3 ⟨⟨pn,cn,rfl,hcn,hrn⟩,b⟩;have b3:=Below.more b2 b;have CLK:=zh (CL.out w3 pn cn (Below.more BW b3) hcn hrn);clear b hcn hrn;rw[List.length_map]at CLK ⊢;go_wp2_with fail;refine CLK.out.mono ?_;rintro e0 w4 ⟨rfl,b⟩;have b4:=Below.more b3 b;clear b CLK;go_wp2_with fail;refine(CR.out _ (Below.more BW b4)).mono ?_;rintro e0 w5 ⟨rfl,b⟩;have b5:=Below.more b4 b;have ba:=fun x=>Below.alloc b5 b5.size x;clear b;go_wp2_with fail;refine bodyPost_ret (v:=.tuple #[.agg #[.string ⟨#[]⟩,.string ⟨#[]⟩],.int .i64 131]) (by simp[results,Tryz.results11,go_sem, *]) rfl ⟨by rw[HE.out],put2 (Below.more BW (ba _)) (Nat.le_refl _) _ _⟩
  | some y =>
   have HE:Hid (Ev.evalE t l=(rd y,0)):=zh (by rw[he,hv];rfl);have cr:=CR.out;rw[hv]at cr;replace CR:Hid (∀V,Below w.heap.size w V→Calls Tryz.prog 34 #[.slice p t.length c,.slice q l.length d] V (GiveRB V (rd y,true))):=zh cr;clear hz hzl hzx hD hT h hg hm hk hgf hok hlk he hv htr cr;go_enter Tryz.func11,Tryz.ntmps11;go_wp2_with fail;obtain⟨W,hW,BW,sW,r0,r1,r2,r3⟩:=box0z w (.string ⟨#[]⟩) (.string ⟨#[]⟩) 28;rw[hW];clear hW;have b0:=Below.refl W.heap.size W;refine(CM.out _ BW).mono ?_;rintro e0 w1 ⟨rfl,b⟩;have b1:=Below.more b0 b;clear b;go_wp2_with fail;refine(CC.out _ (Below.more BW b1)).mono ?_;rintro e0 w2 ⟨rfl,b⟩;have b2:=Below.more b1 b;clear b;go_wp2_with fail;refine(CN.out _ (Below.more BW b2)).mono ?_;rintro e0 w3 ⟨⟨pn,cn,rfl,hcn,hrn⟩,b⟩;have b3:=Below.more b2 b;have CLK:=zh (CL.out w3 pn cn (Below.more BW b3) hcn hrn);clear b hcn hrn;rw[List.length_map]at CLK ⊢;go_wp2_with fail;refine CLK.out.mono ?_;rintro e0 w4 ⟨rfl,b⟩;have b4:=Below.more b3 b;clear b CLK;go_wp2_with fail;refine(CR.out _ (Below.more BW b4)).mono ?_;rintro e0 w5 ⟨rfl,b⟩;have b5:=Below.more b4 b;have ba:=fun x=>Below.alloc b5 b5.size x;clear b;go_wp2_with fail;refine bodyPost_ret (v:=.tuple #[.agg #[.string ⟨(rd y).1.toArray⟩,.string ⟨(rd y).2.toArray⟩],.int .i64 0]) (by simp[results,Tryz.results11,go_sem, *]) rfl ⟨by rw[HE.out],put2 (Below.more BW (ba _)) (Nat.le_refl _) _ _⟩
theorem evalC:EvalC GoodX where
 below:=fun h hb=>h.below hb
 needs:=fun p c t w hc ht hz hT hg=>eNeeds_any p c t w hc ht hz hT hg
 eval:=fun D hDl p c t q d l w hc ht hz hd hl hzl hD hT h hg=>eEval_any D p c t q d l w hc ht hz hd hl hzl (fun x hx=>⟨by have:=(hzl x hx).2.2;omega,by have:=(hzl x hx).1;omega,by have:=(hzl x hx).2.1;omega⟩) hD hT h hg
end Go.Proofs.YtghioekjghmdaaaGreatDoor
