/- Own work. -/
import Derived.Test.YtghioekjghmdaaaGreatDoorTk
import Derived.Test.YtghioekjghmdaaaGreatDoorAllRefE6M
import Derived.Test.YtghioekjghmdaaaGreatDoorFixE
set_option linter.unusedSimpArgs false
set_option linter.unusedVariables false
set_option maxHeartbeats 4000000
set_option maxRecDepth 100000
namespace Go.Proofs.YtghioekjghmdaaaGreatDoor
open Go.RowKit
open Tm (Nd Tr okN arN arI checkT treeOf stk mkT)
open Ev (zf keysT spanN lastN needsK leafQ upQ stepV valT Dg)
theorem reval_any{D:Nat}(hD0:0<D)(hDD:60*D+4≤18000)(p:Option Addr)(c:Nat)(t:List Nd)(q:Option Addr)(d:Nat)(l:List Fx.Fix)(w:World)(hct:t.length≤c)(ht:t.length≤2000)(hz:∀x∈t,SzN x)(hld:l.length≤d)(hl:l.length≤1000)(hzx:∀x∈l,SzX x)(hzl:Ev.SzP D l)(hD:∀tr,treeOf t=some tr→Ev.dgT D tr≤18900)(hT:Nds w p t)(h:Fxs w q l) :
  Calls Tryz.prog 12 #[.slice p t.length c,.slice q l.length d] w (GiveRE w (Ev.evalE t l)):=by
 have CM:=zh fun V (hV:Below w.heap.size w V)=>rfmay_any q d l V hld (by omega) hzx (h.below hV);have CC:=zh fun V (hV:Below w.heap.size w V)=>rtcheck_any p c t V (zh fun x hx=>by have:=(hz x hx).1;omega) (hT.below hV);have CN:=zh fun V (hV:Below w.heap.size w V)=>rneeds_any p c t V hct ht hz (hT.below hV);have CG:=zh fun V (hV:Below w.heap.size w V) u dd=>rfget_any q d l u dd V hld (by omega) hzx (h.below hV);have HT:=zh hT;have HF0:=zh h
 clear hT h;go_enter Tryz.func12,Tryz.ntmps12;go_wp2_with fail;obtain⟨W,hW,bW,sW,r0,r1,r2,r3,hzz⟩:=boxRP w (.string ⟨#[]⟩) (.string ⟨#[]⟩) (.string ⟨#[]⟩) (.string ⟨#[]⟩) 28 28;rw[hW];clear hW;have b0:=Below.refl W.heap.size W;have BW:=zh bW;replace r0:=fun v (h:Below W.heap.size W v)=>r0 v (h.mono (by omega));replace r1:=fun v (h:Below W.heap.size W v)=>r1 v (h.mono (by omega));replace r2:=fun v (h:Below W.heap.size W v)=>r2 v (h.mono (by omega));replace r3:=fun v (h:Below W.heap.size W v)=>r3 v (h.mono (by omega));have n0:=fun v (h:Below W.heap.size W v)=>(hzz.below h).c0;have n1:=fun v (h:Below W.heap.size W v)=>(hzz.below h).c1;clear bW hzz sW;refine(CM.out _ BW.out).mono ?_;rintro e0 w1 ⟨rfl,b⟩;have b1:=Below.more b0 b;clear b
 cases hm:Fx.mayF l with
 | false =>
  have HE:Hid (Ev.evalE t l=(([],[]),1)):=zh (by unfold Ev.evalE;rw[if_pos hm];rfl);go_wp2_with fail;refine bodyPost_ret (v:=.tuple #[.agg #[.string ⟨#[]⟩,.string ⟨#[]⟩],.int .i64 1]) (by simp[results,Tryz.results12,go_sem, *]) rfl ⟨by rw[HE.out],put2 (Below.more BW.out b1) (Nat.le_refl _) _ _⟩
 | true =>
 go_wp2_with fail;refine(CC.out _ (Below.more BW.out b1)).mono ?_;rintro e0 w2 ⟨rfl,b⟩;have b2:=Below.more b1 b;clear b;obtain⟨rk,hrk⟩:∃rk,checkT t=rk:=⟨_,rfl⟩;rw[hrk];by_cases hk0:rk=0
 case neg =>
  have HE:Hid (Ev.evalE t l=(([],[]),100)):=zh (by unfold Ev.evalE;rw[if_neg (by rw[hm];decide),if_pos (by rw[hrk];exact hk0)];rfl);clear hrk;go_wp2_with fail;refine bodyPost_ret (v:=.tuple #[.agg #[.string ⟨#[]⟩,.string ⟨#[]⟩],.int .i64 100]) (by simp[results,Tryz.results12,go_sem, *]) rfl ⟨by rw[HE.out],put2 (Below.more BW.out b2) (Nat.le_refl _) _ _⟩
 subst hk0;have hok:=check_ok hrk;have hgf:Fx.GoodF l:=Fx.good_iffF.1 hm;obtain⟨tr,htr,_⟩:=Ev.check_inv hrk;have hnk:needsK t=keysT t:=by unfold needsK;rw[if_pos hrk]
 have HGR:Hid (∀k:Fx.FK,Fx.getF l k=Fx.rawF l k):=zh (fun k=>by unfold Fx.getF;rw[hm];rfl);have HEV:=zh (Ev.eval_may hm hrk);go_wp2_with fail;refine(CN.out _ (Below.more BW.out b2)).mono ?_;rintro e0 w3 ⟨⟨pn,cn,rfl,hcn,hrn⟩,b⟩;have b3:=Below.more b2 b;clear b;rw[hnk,List.length_map]at hcn;rw[hnk]at hrn;rw[hnk,List.length_map];have HN:=zh hrn;have HOK:=zh fun x hx=>(hok x hx).1;have HFC:=zh fun hlk=>reck_facts hD0 hDD htr HOK.out ht (hD tr htr) hgf hzl hlk;have HEV2:Hid (Ev.lackB l t=false→Ev.evalE t l=Ev.endQ (valT l tr)):=zh fun hlk=>by rw[HEV.out,if_neg (by rw[hlk];decide),htr]
 have CLF:=zh fun x (hx:x∈t) V (hV:Below w.heap.size w V)=>rleaf_any hD0 hDD x (HOK.out x hx) q d l V hl hgf hzl (HF0.out.below hV);have hln:(keysT t).length≤200000:=by have:=Ev.keys_len HOK.out;omega
 have hb3:=b3;clear b1 b2 b3 hrn hok hgf hnk hz hzl hzx hD hm hrk htr;go_wp2_with fail
 go_loopw [8] (fun iv wr=>∃k:Nat,k≤(keysT t).length∧iv=.int .i64 k∧Hid (∀ (j:Nat) (y:Fx.FK),j<k→(keysT t)[j]?=some y→(Fx.rawF l y).isSome=true)∧Below w3.heap.size w3 wr) (fun iv _=>(keysT t).length-(intOf iv).toNat)
 case atStart=>exact⟨0,Nat.zero_le _,rfl,zh fun j y h=>absurd h (Nat.not_lt_zero j),Below.refl _ _⟩
 case round =>
  obtain⟨k,hk,rfl,HJ,hw3⟩:=hrel;have hw:=Below.more hb3 hw3;by_cases hlt:k<(keysT t).length
  ·have hki:(k:Int)<((keysT t).length:Int):=by omega
   have hk0:(0:Int)≤(k:Int):=by omega
   obtain⟨⟨u,dd⟩,hy⟩:∃y,(keysT t)[k]?=some y:=⟨_,List.getElem?_eq_getElem hlt⟩;have hyz:((keysT t).map zf)[k]?=some ((u,dd),([],[])):=by rw[List.getElem?_map,hy];rfl
   obtain⟨bb,bo,rfl,k0,k1,k2,k3⟩:=fx_rule (HN.out.below hw3) hyz;have HY:=zh hy;clear hy hyz k2 k3;have bb0:=Below.refl wr.heap.size wr;have hB:Hid (wr.heap.size≤wr.heap.size):=zh (Nat.le_refl _);have HW:=zh hw;have HW3:=zh hw3
   have cg:=fun V (hV:Below wr.heap.size wr V)=>CG.out V (Below.more BW.out (Below.more hw hV)) u dd;have n0':=fun v (h:Below wr.heap.size wr v)=>n0 v (Below.more hw h);have n1':=fun v (h:Below wr.heap.size wr v)=>n1 v (Below.more hw h);have r0':=fun v (h:Below wr.heap.size wr v)=>r0 v (Below.more hw h);have r1':=fun v (h:Below wr.heap.size wr v)=>r1 v (Below.more hw h);have r2':=fun v (h:Below wr.heap.size wr v)=>r2 v (Below.more hw h);have r3':=fun v (h:Below wr.heap.size wr v)=>r3 v (Below.more hw h);clear hw hw3 n0 n1 r0 r1 r2 r3
   cases hg:Fx.getF l (u,dd) with
   | none =>
    have HE:Hid (Ev.evalE t l=(([],[]),130)):=zh (by rw[HEV.out,if_pos (Ev.lack_iff.2 ⟨_,List.mem_of_getElem? HY.out,by rw[←HGR.out];exact hg⟩)];rfl);rw[hg]at cg;have CGK:Hid (∀V,Below wr.heap.size wr V→Calls Tryz.prog 18 #[.slice q l.length d,.string ⟨u.toArray⟩,.int .i64 dd] V (GiveRB V (([],[]),false))):=zh cg;clear cg hg;go_wp2_with fail
    first|(go_region_held3 (fun w'=>Below wr.heap.size wr w')
        (first|(exact bb0.drew)|(with_reducible assumption)|(exact Below.alloc (by with_reducible assumption) (Nat.le_trans hB.out (Below.size (by with_reducible assumption))) _)|(exact put2 (by with_reducible assumption) (Nat.le_refl _) _ _)|(exact put2 (by with_reducible assumption) hB.out _ _)|(exact put2 (by with_reducible assumption) (Nat.le_trans hB.out (Below.size (by with_reducible assumption))) _ _))
        (first|(go_at_call 18;(with_reducible refine(held (W:=wr) hB.out (CGK.out _ (by with_reducible assumption)) (by assumption)).mono ?_);rintro e w'' ⟨rfl,hb,hw⟩;(first|(have hz:=zc_made0 hb)|(have hz:=zc_made hb)|skip);(try have hz:=Zc.below (by assumption) hb);(try (have z0:=hz.c0;have z1:=hz.c1;have z2:=hz.f0;have z3:=hz.f1)))))|fail
    all_goals (go_wp2_with fail)
    all_goals (refine bodyPost_ret (v:=.tuple #[.agg #[.string ⟨#[]⟩,.string ⟨#[]⟩],.int .i64 130]) (by simp[results,Tryz.results12,go_sem, *]) rfl ⟨by rw[HE.out],put2 (Below.more BW.out (Below.more HW.out (by with_reducible assumption))) (Nat.le_refl _) _ _⟩)
   | some yy =>
    have HS:Hid ((Fx.rawF l (u,dd)).isSome=true):=zh (by rw[←HGR.out,hg];rfl);rw[hg]at cg;obtain⟨y1,y2⟩:=yy;have CGK:Hid (∀V,Below wr.heap.size wr V→Calls Tryz.prog 18 #[.slice q l.length d,.string ⟨u.toArray⟩,.int .i64 dd] V (GiveRB V ((y1,y2),true))):=zh cg;clear cg hg n0' n1' r0' r1' r2' r3';go_wp2_with fail
    first|(go_region_held3 (fun w'=>Below wr.heap.size wr w')
        (first|(exact bb0.drew)|(with_reducible assumption)|(exact Below.alloc (by with_reducible assumption) (Nat.le_trans hB.out (Below.size (by with_reducible assumption))) _)|(exact put2 (by with_reducible assumption) (Nat.le_refl _) _ _)|(exact put2 (by with_reducible assumption) hB.out _ _)|(exact put2 (by with_reducible assumption) (Nat.le_trans hB.out (Below.size (by with_reducible assumption))) _ _))
        (first|(go_at_call 18;(with_reducible refine(held (W:=wr) hB.out (CGK.out _ (by with_reducible assumption)) (by assumption)).mono ?_);rintro e w'' ⟨rfl,hb,hw⟩;(first|(have hz:=zc_made0 hb)|(have hz:=zc_made hb)|skip);(try have hz:=Zc.below (by assumption) hb);(try (have z0:=hz.c0;have z1:=hz.c1;have z2:=hz.f0;have z3:=hz.f1)))))|fail
    all_goals (
     go_wp2_with fail;go_roundw
     case rel=>exact⟨k+1,hlt,by go_num,zh fun j y hj hy=>by
      by_cases e:j=k
      ·subst e;obtain rfl:=Option.some.inj (HY.out.symm.trans hy);exact HS.out
      ·exact HJ.out j y (by omega) hy,Below.more HW3.out (by with_reducible assumption)⟩
     case measure=>simp[intOf];omega)
  ·obtain rfl:k=(keysT t).length:=by omega
   have hki:¬((keysT t).length:Int)<((keysT t).length:Int):=by omega
   have hlk:Ev.lackB l t=false:=by
    unfold Ev.lackB;refine List.any_eq_false.2 fun y hy=>?_;obtain⟨j,hj,rfl⟩:=List.getElem_of_mem hy;have:=HJ.out j _ hj (List.getElem?_eq_getElem hj)
    cases e:Fx.rawF l (keysT t)[j] with
    | none=>rw[e]at this;cases this
    | some _=>simp
   obtain⟨hsk,hfm,hth,hsh⟩:=HFC.out hlk;have HEQ:=zh (HEV2.out hlk);have HNE:=zh fun (i:Nat) (st:List Tr) (hi:i≤t.length) (hst:stk t i=some st) (hx:∃s∈st,valT l s=none)=>Ev.none_end (l:=l) hsk (t.length-i) i st (by omega) hst hx;have HF:=zh hfm;have HTH:=zh hth;have HSH:=zh hsh;have HK:=zh hsk
   have hb4:=Below.more hb3 hw3;have own0:OwnQ W.heap.size (wr.alloc (.cells #[] 28)) (.slice (some ⟨wr.heap.size,0,none⟩) 0 0) []:=ownG_empty wr (Below.size hb4);have HI0:Hid (EvI l t W 0 [] [] (some ⟨wr.heap.size,0,none⟩) 0 0 (wr.alloc (.cells #[] 28))):=zh ⟨own0,rfl,rfl,rfl,Below.alloc hb4 (Below.size hb4) _⟩;clear hlk hsk hfm hth hsh own0 HJ HFC HEV2 HEV hb3 hw3 hb4;go_wp2_with fail
   go_loopw [11,12] (fun lv iv wr=>∃ (k:Nat) (st:List Tr) (r:List Rat) (g n cs:Nat),k≤t.length∧iv=.int .i64 k∧lv=.slice (some ⟨g,0,none⟩) n cs∧Hid (EvI l t W k st r (some ⟨g,0,none⟩) n cs wr)) (fun _ iv _=>t.length-(intOf iv).toNat)
   case atStart=>exact⟨0,[],[],_,0,0,Nat.zero_le _,rfl,rfl,HI0⟩
   case round =>
    clear HI0 hki;obtain⟨k,st,r,g,n,cs,hk,rfl,rfl,HI⟩:=hrel;have HNn:Hid (n=r.length∧r.length=st.length):=zh ⟨HI.out.len,by have:=congrArg List.length HI.out.vals;simpa using this.symm⟩;have hnk:n≤k:=by
     have e:=Tm.stk_fl HI.out.stk hk;have:=Tm.len_fl st;have:=HNn.out;omega
    by_cases hlt:k<t.length
    ·have hki:(k:Int)<(t.length:Int):=by omega
     obtain⟨x,hx⟩:∃x,t[k]?=some x:=⟨_,List.getElem?_eq_getElem hlt⟩;have HX:=zh hx;have hmx:=List.mem_of_getElem? hx;obtain⟨bp,op,rfl,k0,k1,k2,k3,k4,k5⟩:=nds_rule (HT.out.below (Below.more BW.out HI.out.lo)) hx;obtain⟨m,ha,hm⟩:=HF.out k st x hx HI.out.stk;obtain⟨S,L,S',L',hSL,hLm,hSq,hsv,hstk,hstv,hLin⟩:=ev_step HI.out hx ha hm;obtain⟨u,hu⟩:∃u,n=u+m:=⟨n-m,by have:=HNn.out;omega⟩;have hSq:S'.length=u:=by omega
     have HV:=zh hstv;have HSV:=zh hsv;have HST:=zh hstk;have HSL:=zh hSL
     have HAR:=zh ha;have HCS:Hid (u+m≤cs):=zh (by
      rcases own_form HI.out.own with ⟨e,_⟩|⟨_,_,_,_,_,h⟩
      ·cases e
      ·omega)
     have hn1:arI x.op=(m:Int):=by unfold arI;rw[ha]
     have hwr1:IntKind.i64.wrap ((u:Int)+(m:Int)-(m:Int))=(u:Int):=(IntWalk.i64_in _ (by omega)).trans (by omega);have hwr3:IntKind.i64.wrap (u:Int)=(u:Int):=IntWalk.i64_in _ (by omega);subst hu;have hlu:S'.length≤2000:=by omega
     obtain⟨⟨f1,f2⟩,hlf⟩:∃z,lfK l x=z:=⟨_,rfl⟩;have clf:=fun V (hV:Below w.heap.size w V)=>CLF.out x hmx V hV;rw[hlf]at clf;have CLX:=zh clf;obtain⟨⟨⟨u1,u2⟩,ib⟩,hSV⟩:∃z,vB (stepV l x L')=z:=⟨_,rfl⟩;have HSVV:=zh hSV;have HL0:Hid (m=0→(f1,f2)=(u1,u2)∧ib=true):=zh (fun h0=>by
      subst h0;obtain rfl:L'=[]:=List.length_eq_zero_iff.1 hLm;have e:=lfK_leaf (HOK.out x hmx) ha (HTH.out x hmx);rw[hlf]at e;have e2:(rd (leafQ l x),true)=(((u1,u2),ib):Key×Bool):=hSV;injection e2 with e3 e4
      exact⟨e.trans e3,e4.symm⟩)
     have hsh:∀y∈L',ShQ y:=fun y hy=>HSH.out k st r hk HI.out.stk HI.out.vals y (by rw[hSL];exact List.mem_append_right _ hy);have HUP:Hid (m≠0→vB (upQ x.op L')=((u1,u2),ib)∧L'≠[]):=zh (fun h0=>by
      have hne:L'≠[]:=fun e=>h0 (by rw[←hLm,e];rfl);exact⟨by rw[←Ev.step_up hne];exact hSV,hne⟩)
     have HSQ:=zh hsh;have HLM:=zh hLm
     have bw0:=Below.refl wr.heap.size wr;clear hSL hstv hsv hstk ha hLin hlf clf hSV hsh hLm hx hm;go_wp2_with fail;refine(rtarity_any x.op _).mono ?_;rintro e0 w1 ⟨rfl,b⟩;rw[hn1];have b1:=Below.more (Below.refl wr.heap.size wr) b;clear b;go_wp2_with fail;refine(CLX.out _ (Below.more BW.out (Below.more HI.out.lo b1))).mono ?_;rintro e0 w2 ⟨rfl,b⟩;have b2:=Below.more b1 b;clear b b1;have HW2:=zh (Below.more HI.out.lo b2);have HI2:=zh (HI.out.calm b2);replace k0:=fun v (h:Below w2.heap.size w2 v)=>k0 v (Below.more b2 h);clear k1 k2 k3 k4 k5 CLX b2 HI bw0;have ba0:=Below.refl w2.heap.size w2;have ba:=fun x=>Below.alloc ba0 (Nat.le_refl _) x
     go_upto_if 71 with fail
     obtain⟨x1,hU,p1,hz⟩:∃U,w2.alloc (.cells #[.string ⟨f1.toArray⟩,.string ⟨f2.toArray⟩] 28)=U∧Below w2.heap.size w2 U∧Zc w2.heap.size (.string ⟨f1.toArray⟩) (.string ⟨f2.toArray⟩) U:=⟨_,rfl,Below.alloc (Below.refl _ _) (Nat.le_refl _) _,zc_new _ _ _ _⟩;rw[hU];clear hU ba ba0;obtain⟨bx,hbx⟩:∃bx,w2.heap.size=bx:=⟨_,rfl⟩;have HBX:=zh hbx;clear hbx
     go_cut [15] from 52 to 100 (fun okv wx=>okv=.bool ib∧Zc w2.heap.size (.string ⟨u1.toArray⟩) (.string ⟨u2.toArray⟩) wx∧Below w2.heap.size w2 wx)
     case first =>
      by_cases hm0:m=0
      ·obtain⟨e1,rfl⟩:=HL0.out hm0;obtain rfl:f1=u1:=congrArg Prod.fst e1;obtain rfl:f2=u2:=congrArg Prod.snd e1;have hmi:¬(0:Int)<(m:Int):=by omega
       clear e1 hm0;go_wp2_with fail
       go_meet
       exact⟨rfl,hz,p1⟩
      ·have hmi:(0:Int)<(m:Int):=by omega
       have CAB:Hid (∀V',Below w2.heap.size w2 V'→Calls Tryz.prog 37 #[.int .i64 x.op,.slice (some ⟨g,u*2,none⟩) m (cs-u)] V' (GiveRB V' ((u1,u2),ib))):=zh fun V' hV'=>by
        obtain⟨p5,c5,e5,_,hrw0,_⟩:=ownG_rows (enc:=encQ) (k:=2) (fun _=>rfl) HI2.out.own;injection e5 with e5 _ _
        subst e5;have k1:=hrw0.part u m;rw[HSL.out,List.drop_left' (show S'.length=u by omega),List.take_of_length_le (by have:=HLM.out;omega),Nat.zero_add]at k1;have e:=HUP.out hm0;have k2:=eabove_any x.op L' (some ⟨g,u*2,none⟩) (cs-u) V' (by rw[HLM.out];exact HAR.out) e.2 HSQ.out (k1.below hV');rw[e.1,HLM.out]at k2;exact k2
       have i1:(u:Int)≤(u:Int)+(m:Int):=by omega
       have i2:u≤u+m:=by omega
       have hcu:¬cs=u:=by have:=HCS.out;omega
       have hzd:=hz.drew;have hB:Hid (w2.heap.size≤w2.heap.size):=zh (Nat.le_refl _);clear hm0;go_wp2_with fail;refine tkG (S:=fun w'=>Below w2.heap.size w2 w') (p1.drew) (fun hH0=>?_);refine sch_in [0,1,2,3,4,5,6,7,8,9,10] ?_
       iterate 11 (refine scY ?_;try simp only[Act.put,qA,qB,qC,qD,qE,qF])
       refine sch_out ?_;refine tkR 11 (fun K hK=>?_)
       go_simp
       with_reducible refine(held (W:=w2) hB.out (CAB.out _ hH0) hH0).mono ?_
       rintro e0 x2 ⟨rfl,hb,hw⟩
       (try go_wp2_with fail)
       refine hK.out _ _ hw (fun hH1=>?_);clear hK hH0
       try simp only[Act.put,qA,qB,qC,qD,qE,qF]
       have hz2:=hzd.below hb;have z0:=hz2.c0;have z1:=hz2.c1;have z2:=hz2.f0;have z3:=hz2.f1
       refine sch_in [12,13,14] ?_
       iterate 3 (refine scY ?_;try simp only[Act.put,qA,qB,qC,qD,qE,qF])
       refine sch_out ?_;refine tkR 15 (fun K hK=>?_)
       go_simp
       refine hK.out _ _ (put2 hw (Nat.le_refl _) _ _) (fun hH2=>?_);clear hK hH1
       try simp only[Act.put,qA,qB,qC,qD,qE,qF]
       refine sch_in [16] ?_
       iterate 1 (refine scY ?_;try simp only[Act.put,qA,qB,qC,qD,qE,qF])
       refine sch_out ?_;refine tkD ?_;go_wp2_with fail
       go_meet
       exact⟨rfl,zc_put hz2,put2 hw (Nat.le_refl _) _ _⟩
     case rest =>
      obtain⟨rfl,hz,hcc⟩:=hcut;rw[HBX.out]at hz ⊢;have bWc:=Below.more HW2.out hcc;have n0':=fun v (h:Below wc.heap.size wc v)=>n0 v (Below.more bWc h);have n1':=fun v (h:Below wc.heap.size wc v)=>n1 v (Below.more bWc h);have r0':=fun v (h:Below wc.heap.size wc v)=>r0 v (Below.more bWc h);have r1':=fun v (h:Below wc.heap.size wc v)=>r1 v (Below.more bWc h);have r2':=fun v (h:Below wc.heap.size wc v)=>r2 v (Below.more bWc h);have r3':=fun v (h:Below wc.heap.size wc v)=>r3 v (Below.more bWc h);have bc0:=Below.refl wc.heap.size wc;have HBC:=zh bWc
      cases ib with
      | false =>
       have HO:Hid (Ev.evalE t l=(([],[]),131)):=zh (by
        have e:=(vB_no HSVV.out).1;have e2:=HNE.out (k+1) _ hlt HST.out ⟨_,List.mem_append_right _ (List.mem_singleton.2 rfl),HV.out.trans e⟩;rw[HEQ.out,e2];rfl)
       clear hz hcc bWc;go_wp2_with fail;refine bodyPost_ret (v:=.tuple #[.agg #[.string ⟨#[]⟩,.string ⟨#[]⟩],.int .i64 131]) (by simp[results,Tryz.results12,go_sem, *]) rfl ⟨by rw[HO.out],put2 (Below.more BW.out HBC.out) (Nat.le_refl _) _ _⟩
      | true =>
       obtain⟨y,hy1,hy2⟩:=vB_yes HSVV.out;obtain rfl:u1=(rd y).1:=congrArg Prod.fst hy2;obtain rfl:u2=(rd y).2:=congrArg Prod.snd hy2;have HVY:=zh (HV.out.trans hy1);have HRW:Hid (Qs wc (some ⟨g,0,none⟩) S'):=zh (by
        obtain⟨p5,c5,e5,_,hrw0,_⟩:=ownG_rows (enc:=encQ) (k:=2) (fun _=>rfl) HI2.out.own;injection e5 with e5 _ _
        subst e5;have k1:=hrw0.part 0 u;rw[HSL.out,List.drop_zero,List.take_left' (show S'.length=u by omega),Nat.zero_mul,Nat.add_zero]at k1;exact k1.below hcc)
       have hcs2:=HCS.out;have i3:(u:Int)≤(cs:Int):=by omega
       have i4:u≤cs:=by omega
       clear hy1 hy2 HSVV hcc bWc n0' n1' r0' r1' r2' r3' hcs2;go_wp2_with fail;refine tkG (S:=Zc bx (.string ⟨(rd y).1.toArray⟩) (.string ⟨(rd y).2.toArray⟩)) hz.drew (fun hH0=>?_);have hb:=HBC.out.drew;have hrw:=HRW.out.below (Below.drew (Below.refl _ _));clear hz;have hz:=hH0;generalize wc.drew=V0 at hb hrw hz hH0 ⊢;have z0:∀v,Zc bx (.string ⟨(rd y).1.toArray⟩) (.string ⟨(rd y).2.toArray⟩) v→v.cell? ⟨bx,0,none⟩=some (.string ⟨(rd y).1.toArray⟩):=fun v h=>h.c0;have z1:∀v,Zc bx (.string ⟨(rd y).1.toArray⟩) (.string ⟨(rd y).2.toArray⟩) v→v.cell? ⟨bx,1,none⟩=some (.string ⟨(rd y).2.toArray⟩):=fun v h=>h.c1;refine sch_in [1,2,3,4,5,6,8] ?_
       iterate 7 (refine scY ?_;try simp only[Act.put,qA,qB,qC,qD,qE,qF])
       refine sch_out ?_;refine wpAnyH_ready (rs:=[0,9]) (by kernel_rfl) (by simp) ?_;refine AllReadyH.cons rfl (fun K hK=>?_) (AllReadyH.cons rfl (fun K hK=>?_) AllReadyH.nil)
       ·go_simp
        have gg:Below V0.heap.size V0 (V0.alloc (.cells #[] 28)):=Below.alloc (Below.refl _ _) (Nat.le_refl _) _;have own1:OwnQ W.heap.size (V0.alloc (.cells #[] 28)) (.slice (some ⟨V0.heap.size,0,none⟩) 0 0) []:=ownG_empty V0 (Below.size hb);have hnx:V0.heap.size≠bx:=fun e=>absurd hz.lt (by omega);generalize V0.alloc (.cells #[] 28)=V1 at gg own1 ⊢;generalize V0.heap.size=b1 at own1 hnx ⊢;replace hb:=Below.more hb gg;replace hz:=hz.below gg;replace hrw:=hrw.below gg;clear gg;refine hK.out _ _ hz (fun hH9=>?_);clear hK hH9
        try simp only[Act.put,qA,qB,qC,qD,qE,qF]
        refine wpAnyH_ready (rs:=[7,9]) (by kernel_rfl) (by simp) ?_;refine AllReadyH.cons rfl (fun K hK=>?_) (AllReadyH.cons rfl (fun K hK=>?_) AllReadyH.nil)
        ·rw[if_pos (by rfl)];refine wp_append_M _ _ 49 28 rfl Tryz.underlying49 qInfo rfl (by decide) (by decide) (fun _=>rfl) encQ_one W.heap.size (.slice (some ⟨b1,0,none⟩) 0 0) [] rfl own1 (some ⟨g,0,none⟩) S' cs (by rw[hSq];go_simp) hrw (by decide) (by omega) (Below.size hb) ?_;intro v2 V2 own2 hg2 hl2';rw[List.nil_append]at own2;have hn2:(Value.ownBlock v2)≠some bx:=by
          rcases hl2' with e|e
          ·rw[e];exact fun h=>hnx (Option.some.inj h)
          ·rw[e];exact fun h=>absurd hz.lt (by have:V1.heap.size=bx:=Option.some.inj h;omega)
         have hz:=zc_grow hz hg2 (fun h=>hnx (Option.some.inj h));have hb:=Below.grown hb hg2 (Below.size hb) fun j h=>(World.ownsRow.lt own1 j h).1;clear hg2 hl2' own1 hnx hrw;refine hK.out _ _ hz (fun hH9=>?_);clear hK hH9
         try simp only[Act.put,qA,qB,qC,qD,qE,qF]
         refine tkR 9 (fun K hK=>?_)
         go_simp
         have gg:Below V2.heap.size V2 (V2.alloc (.cells #[.string ⟨(rd y).1.toArray⟩,.string ⟨(rd y).2.toArray⟩] 28)):=Below.alloc (Below.refl _ _) (Nat.le_refl _) _;have r9:Qs (V2.alloc (.cells #[.string ⟨(rd y).1.toArray⟩,.string ⟨(rd y).2.toArray⟩] 28)) (some ⟨V2.heap.size,0,none⟩) [y]:=rowsOne (enc:=encQ) (k:=2) V2 y 28 _ rfl;have hl9:V2.heap.size<(V2.alloc (.cells #[.string ⟨(rd y).1.toArray⟩,.string ⟨(rd y).2.toArray⟩] 28)).heap.size:=by simp
         generalize V2.alloc (.cells #[.string ⟨(rd y).1.toArray⟩,.string ⟨(rd y).2.toArray⟩] 28)=V3 at gg r9 hl9 ⊢;generalize V2.heap.size=b9 at r9 hl9 ⊢;replace hb:=Below.more hb gg;replace hz:=hz.below gg;replace own2:=ownG_below own2 gg;clear gg;refine hK.out _ _ hz (fun hH9=>?_);clear hK hH9
         try simp only[Act.put,qA,qB,qC,qD,qE,qF]
         refine tkR 10 (fun K hK=>?_);rw[if_pos (by rfl)];refine wp_append_G _ _ 49 28 rfl Tryz.underlying49 qInfo rfl (by decide) (by decide) (fun _=>rfl) encQ_one W.heap.size v2 S' rfl own2 ⟨b9,0,none⟩ y 1 rfl r9 (by omega) (Below.size hb) ?_;intro v3 w9 own3 hg3 hl3';have hz:=zc_grow hz hg3 hn2;have hb:=Below.grown hb hg3 (Below.size hb) fun j h=>(World.ownsRow.lt own2 j h).1;clear hg3 hl3' own2 hn2 r9;obtain⟨p3,c3,rfl,_,_,_⟩:=ownG_rows (enc:=encQ) (k:=2) (fun _=>rfl) own3;obtain⟨g3,rfl⟩:∃g3,p3=some ⟨g3,0,none⟩:=by
          rcases own_form own3 with ⟨_,h,_⟩|⟨g3,h,_⟩
          ·rw[List.length_append]at h;simp at h
          ·exact⟨g3,h⟩
         obtain⟨n5,hn5⟩:∃n5,(S'++[y]).length=n5:=⟨_,rfl⟩;have HN5:=zh hn5.symm;rw[hn5]at own3 ⊢;clear hn5;have HE1:=zh own3;have HB4:=zh hb
         clear own3 hb;refine hK.out _ _ hz (fun hH9=>?_);clear hK hH9
         try simp only[Act.put,qA,qB,qC,qD,qE,qF]
         refine sch_in [11] ?_
         iterate 1 (refine scY ?_;try simp only[Act.put,qA,qB,qC,qD,qE,qF])
         refine sch_out ?_;refine tkD ?_;clear z0 z1 hH0 hz;go_wp2_with fail;go_roundw
         case rel=>exact⟨k+1,S++[mkT x L],S'++[y],g3,n5,c3,hlt,by go_num,rfl,zh ⟨HE1.out,HN5.out,HST.out,by rw[List.map_append,List.map_append,HSV.out,List.map_singleton,List.map_singleton,HVY.out],HB4.out⟩⟩
         case measure=>simp[intOf];omega
        ·go_simp
         have gg:Below V1.heap.size V1 (V1.alloc (.cells #[.string ⟨(rd y).1.toArray⟩,.string ⟨(rd y).2.toArray⟩] 28)):=Below.alloc (Below.refl _ _) (Nat.le_refl _) _;have r9:Qs (V1.alloc (.cells #[.string ⟨(rd y).1.toArray⟩,.string ⟨(rd y).2.toArray⟩] 28)) (some ⟨V1.heap.size,0,none⟩) [y]:=rowsOne (enc:=encQ) (k:=2) V1 y 28 _ rfl;have hl9:V1.heap.size<(V1.alloc (.cells #[.string ⟨(rd y).1.toArray⟩,.string ⟨(rd y).2.toArray⟩] 28)).heap.size:=by simp
         have hn9:b1≠V1.heap.size:=fun e=>absurd (World.ownsRow.lt own1 b1 rfl).2 (by omega);generalize V1.alloc (.cells #[.string ⟨(rd y).1.toArray⟩,.string ⟨(rd y).2.toArray⟩] 28)=V2 at gg r9 hl9 ⊢;generalize V1.heap.size=b9 at r9 hl9 hn9 ⊢;replace hb:=Below.more hb gg;replace hz:=hz.below gg;replace hrw:=hrw.below gg;replace own1:=ownG_below own1 gg;clear gg;refine hK.out _ _ hz (fun hH9=>?_);clear hK hH9
         try simp only[Act.put,qA,qB,qC,qD,qE,qF]
         refine tkR 7 (fun K hK=>?_);rw[if_pos (by rfl)];refine wp_append_M _ _ 49 28 rfl Tryz.underlying49 qInfo rfl (by decide) (by decide) (fun _=>rfl) encQ_one W.heap.size (.slice (some ⟨b1,0,none⟩) 0 0) [] rfl own1 (some ⟨g,0,none⟩) S' cs (by rw[hSq];go_simp) hrw (by decide) (by omega) (Below.size hb) ?_;intro v2 V3 own2 hg2 hl2';rw[List.nil_append]at own2;have hn2:(Value.ownBlock v2)≠some bx:=by
          rcases hl2' with e|e
          ·rw[e];exact fun h=>hnx (Option.some.inj h)
          ·rw[e];exact fun h=>absurd hz.lt (by have:V2.heap.size=bx:=Option.some.inj h;omega)
         have r9:=r9.grown hg2 (fun a h=>by cases h;exact fun h=>hn9 (Option.some.inj h));have hz:=zc_grow hz hg2 (fun h=>hnx (Option.some.inj h));have hb:=Below.grown hb hg2 (Below.size hb) fun j h=>(World.ownsRow.lt own1 j h).1;clear hg2 hl2' own1 hnx hrw;refine hK.out _ _ hz (fun hH9=>?_);clear hK hH9
         try simp only[Act.put,qA,qB,qC,qD,qE,qF]
         refine tkR 10 (fun K hK=>?_);rw[if_pos (by rfl)];refine wp_append_G _ _ 49 28 rfl Tryz.underlying49 qInfo rfl (by decide) (by decide) (fun _=>rfl) encQ_one W.heap.size v2 S' rfl own2 ⟨b9,0,none⟩ y 1 rfl r9 (by omega) (Below.size hb) ?_;intro v3 w9 own3 hg3 hl3';have hz:=zc_grow hz hg3 hn2;have hb:=Below.grown hb hg3 (Below.size hb) fun j h=>(World.ownsRow.lt own2 j h).1;clear hg3 hl3' own2 hn2 r9;obtain⟨p3,c3,rfl,_,_,_⟩:=ownG_rows (enc:=encQ) (k:=2) (fun _=>rfl) own3;obtain⟨g3,rfl⟩:∃g3,p3=some ⟨g3,0,none⟩:=by
          rcases own_form own3 with ⟨_,h,_⟩|⟨g3,h,_⟩
          ·rw[List.length_append]at h;simp at h
          ·exact⟨g3,h⟩
         obtain⟨n5,hn5⟩:∃n5,(S'++[y]).length=n5:=⟨_,rfl⟩;have HN5:=zh hn5.symm;rw[hn5]at own3 ⊢;clear hn5;have HE1:=zh own3;have HB4:=zh hb
         clear own3 hb;refine hK.out _ _ hz (fun hH9=>?_);clear hK hH9
         try simp only[Act.put,qA,qB,qC,qD,qE,qF]
         refine sch_in [11] ?_
         iterate 1 (refine scY ?_;try simp only[Act.put,qA,qB,qC,qD,qE,qF])
         refine sch_out ?_;refine tkD ?_;clear z0 z1 hH0 hz;go_wp2_with fail;go_roundw
         case rel=>exact⟨k+1,S++[mkT x L],S'++[y],g3,n5,c3,hlt,by go_num,rfl,zh ⟨HE1.out,HN5.out,HST.out,by rw[List.map_append,List.map_append,HSV.out,List.map_singleton,List.map_singleton,HVY.out],HB4.out⟩⟩
         case measure=>simp[intOf];omega
       ·go_simp
        have gg:Below V0.heap.size V0 (V0.alloc (.cells #[.string ⟨(rd y).1.toArray⟩,.string ⟨(rd y).2.toArray⟩] 28)):=Below.alloc (Below.refl _ _) (Nat.le_refl _) _;have r9:Qs (V0.alloc (.cells #[.string ⟨(rd y).1.toArray⟩,.string ⟨(rd y).2.toArray⟩] 28)) (some ⟨V0.heap.size,0,none⟩) [y]:=rowsOne (enc:=encQ) (k:=2) V0 y 28 _ rfl;have hl9:V0.heap.size<(V0.alloc (.cells #[.string ⟨(rd y).1.toArray⟩,.string ⟨(rd y).2.toArray⟩] 28)).heap.size:=by simp
        generalize V0.alloc (.cells #[.string ⟨(rd y).1.toArray⟩,.string ⟨(rd y).2.toArray⟩] 28)=V1 at gg r9 hl9 ⊢;generalize V0.heap.size=b9 at r9 hl9 ⊢;replace hb:=Below.more hb gg;replace hz:=hz.below gg;replace hrw:=hrw.below gg;clear gg;refine hK.out _ _ hz (fun hH9=>?_);clear hK hH9
        try simp only[Act.put,qA,qB,qC,qD,qE,qF]
        refine tkR 0 (fun K hK=>?_)
        go_simp
        have gg:Below V1.heap.size V1 (V1.alloc (.cells #[] 28)):=Below.alloc (Below.refl _ _) (Nat.le_refl _) _;have own1:OwnQ W.heap.size (V1.alloc (.cells #[] 28)) (.slice (some ⟨V1.heap.size,0,none⟩) 0 0) []:=ownG_empty V1 (Below.size hb);have hnx:V1.heap.size≠bx:=fun e=>absurd hz.lt (by omega);have hn9:V1.heap.size≠b9:=fun e=>absurd hl9 (by omega);generalize V1.alloc (.cells #[] 28)=V2 at gg own1 ⊢;generalize V1.heap.size=b1 at own1 hnx hn9 ⊢;replace hb:=Below.more hb gg;replace hz:=hz.below gg;replace hrw:=hrw.below gg;replace r9:=r9.below gg;replace hl9:=Nat.lt_of_lt_of_le hl9 gg.size;clear gg;refine hK.out _ _ hz (fun hH9=>?_);clear hK hH9
        try simp only[Act.put,qA,qB,qC,qD,qE,qF]
        refine tkR 7 (fun K hK=>?_);rw[if_pos (by rfl)];refine wp_append_M _ _ 49 28 rfl Tryz.underlying49 qInfo rfl (by decide) (by decide) (fun _=>rfl) encQ_one W.heap.size (.slice (some ⟨b1,0,none⟩) 0 0) [] rfl own1 (some ⟨g,0,none⟩) S' cs (by rw[hSq];go_simp) hrw (by decide) (by omega) (Below.size hb) ?_;intro v2 V3 own2 hg2 hl2';rw[List.nil_append]at own2;have hn2:(Value.ownBlock v2)≠some bx:=by
         rcases hl2' with e|e
         ·rw[e];exact fun h=>hnx (Option.some.inj h)
         ·rw[e];exact fun h=>absurd hz.lt (by have:V2.heap.size=bx:=Option.some.inj h;omega)
        have r9:=r9.grown hg2 (fun a h=>by cases h;exact fun h=>hn9 (Option.some.inj h));have hz:=zc_grow hz hg2 (fun h=>hnx (Option.some.inj h));have hb:=Below.grown hb hg2 (Below.size hb) fun j h=>(World.ownsRow.lt own1 j h).1;clear hg2 hl2' own1 hnx hrw;refine hK.out _ _ hz (fun hH9=>?_);clear hK hH9
        try simp only[Act.put,qA,qB,qC,qD,qE,qF]
        refine tkR 10 (fun K hK=>?_);rw[if_pos (by rfl)];refine wp_append_G _ _ 49 28 rfl Tryz.underlying49 qInfo rfl (by decide) (by decide) (fun _=>rfl) encQ_one W.heap.size v2 S' rfl own2 ⟨b9,0,none⟩ y 1 rfl r9 (by omega) (Below.size hb) ?_;intro v3 w9 own3 hg3 hl3';have hz:=zc_grow hz hg3 hn2;have hb:=Below.grown hb hg3 (Below.size hb) fun j h=>(World.ownsRow.lt own2 j h).1;clear hg3 hl3' own2 hn2 r9;obtain⟨p3,c3,rfl,_,_,_⟩:=ownG_rows (enc:=encQ) (k:=2) (fun _=>rfl) own3;obtain⟨g3,rfl⟩:∃g3,p3=some ⟨g3,0,none⟩:=by
         rcases own_form own3 with ⟨_,h,_⟩|⟨g3,h,_⟩
         ·rw[List.length_append]at h;simp at h
         ·exact⟨g3,h⟩
        obtain⟨n5,hn5⟩:∃n5,(S'++[y]).length=n5:=⟨_,rfl⟩;have HN5:=zh hn5.symm;rw[hn5]at own3 ⊢;clear hn5;have HE1:=zh own3;have HB4:=zh hb
        clear own3 hb;refine hK.out _ _ hz (fun hH9=>?_);clear hK hH9
        try simp only[Act.put,qA,qB,qC,qD,qE,qF]
        refine sch_in [11] ?_
        iterate 1 (refine scY ?_;try simp only[Act.put,qA,qB,qC,qD,qE,qF])
        refine sch_out ?_;refine tkD ?_;clear z0 z1 hH0 hz;go_wp2_with fail;go_roundw
        case rel=>exact⟨k+1,S++[mkT x L],S'++[y],g3,n5,c3,hlt,by go_num,rfl,zh ⟨HE1.out,HN5.out,HST.out,by rw[List.map_append,List.map_append,HSV.out,List.map_singleton,List.map_singleton,HVY.out],HB4.out⟩⟩
        case measure=>simp[intOf];omega
    ·obtain rfl:k=t.length:=by omega
     have hki:¬(t.length:Int)<(t.length:Int):=by omega
     obtain rfl:[tr]=st:=Option.some.inj (HK.out.symm.trans HI.out.stk);obtain⟨y,rfl⟩:∃y,r=[y]:=by
      have:=HNn.out.2
      match r,this with
      | [y],_=>exact⟨y,rfl⟩
     obtain rfl:n=1:=HNn.out.1;have hv:valT l tr=some y:=(List.cons.inj HI.out.vals).1;have HE:Hid (Ev.evalE t l=(rd y,0)):=zh (by rw[HEQ.out,hv];rfl);obtain⟨p5,c5,e5,_,hrw0,_⟩:=ownG_rows (enc:=encQ) (k:=2) (fun _=>rfl) HI.out.own;injection e5 with e5 e51 e52
     subst e5;clear e51 e52;obtain⟨qb,qo,hq,a0,a1⟩:=q_rule hrw0 (k:=0) rfl
     cases hq
     simp only[Nat.zero_mul,Nat.add_zero]at a0 a1;have hlo:=HI.out.lo;have bb0:=Below.refl wr.heap.size wr;have HLO:=zh hlo;clear hv hrw0;go_wp2_with fail;refine bodyPost_ret (v:=.tuple #[.agg #[.string ⟨(rd y).1.toArray⟩,.string ⟨(rd y).2.toArray⟩],.int .i64 0]) (by simp[results,Tryz.results12,go_sem, *]) rfl ⟨by rw[HE.out],put2 (Below.more BW.out HLO.out) (Nat.le_refl _) _ _⟩
end Go.Proofs.YtghioekjghmdaaaGreatDoor
set_option maxHeartbeats 4000000
set_option maxRecDepth 100000
namespace Go.Proofs.YtghioekjghmdaaaGreatDoor
open Go.RowKit
open Tm (Nd Tr treeOf checkT plainN avN)
variable {G : World → Prop}
theorem li_dg2{t:List Nd}{l:List Fx.Fix}(h:liT t l=true):∀tr,treeOf t=some tr→Ev.dgT 10 tr≤18900:=fun tr ht=>by
 obtain⟨_,e⟩:=Tm.tree_inv ht;have k:=Ev.dg_le (D:=10) (t:=tr) fun x hx=>by
  have k:=liN_iff.1 ((li_parts h).1 x (e▸hx));unfold Ev.wN;split<;>omega
 have hl:=(li_parts h).2.2.1;rw[e]at k;omega
theorem nfs_len2{t:List Nd}(h:t.length≤60):(nfs t).length≤4611686018427387904:=by
 show ((Ev.needsK t).map _).length≤_;rw[List.length_map];unfold Ev.needsK;split
 ·rename_i h0
  have:=Ev.keys_len fun x hx=>(check_ok h0 x hx).1;omega
 ·exact Nat.zero_le _
theorem tells13_any(H:EvalC G)(p:Option Addr)(c:Nat)(t:List Nd)(q:Option Addr)(d:Nat)(l:List Fx.Fix)(w:World)(hct:t.length≤c)(hnt:t.length≤4611686018427387904)(HRt:Hid (∀x∈t,RgN x))(hT:Nds w p t)(hcl:l.length≤d)(hnl:l.length≤4611686018427387904)(hL:Fxs w q l)(hg:G w) :
  Calls Tryz.prog 3 #[.slice p t.length c,.slice q l.length d] w (GiveB w true):=by
 have HB:=zh H;have HG:=zh hg;have Lt:=zh hT;have Ll:=zh hL;clear H hg hT hL
 go_enter Tryz.func3,Tryz.ntmps3;have BW:=Below.refl w.heap.size w;have b0:=Below.refl w.heap.size w;go_wp2_with fail;refine(light_any p c t q d l _ hnt hnl (Lt.out.below b0) (Ll.out.below b0)).mono ?_;rintro e w1 ⟨rfl,b⟩;have b1:=Below.more b0 b;clear b
 cases h1:liT t l with
 | false =>
  go_wp2_with fail;refine(fixed13_any HB.out _ (HB.out.below HG.out b1)).mono ?_;rintro e w9 ⟨rfl,b⟩;have b9:=Below.more b1 b;go_wp2_with fail;go_ret;exact⟨ret_bool rfl,Below.more BW b9⟩
 | true =>
 have HZ:=zh (li_sz h1 HRt.out);have HZl:=zh (li_szX h1);have HP1:=zh (li_parts h1);have HD:=zh (li_dg2 h1)
 have HZP:Hid (Ev.SzP 10 l):=zh fun x hx=>by
  have k:=liX_iff.1 (HP1.out.2.1 x hx);exact⟨k.1,k.2.1⟩
 have c1:=fun V (h2:Nds V p t) (h3:Fxs V q l) (g:G V)=>eval_li HB.out hct hcl h1 HRt.out rfl h2 h3 g;have c2:=fun V (h2:Nds V p t) (h3:Fxs V q l)=>reval_any (D:=10) (by decide) (by decide) p c t q d l V hct (by have:=HP1.out.2.2.1;omega) HZ.out hcl (by have:=HP1.out.2.2.2;omega) HZl.out HZP.out HD.out h2 h3;generalize Ev.evalE t l=E at *;obtain⟨⟨x1,x2⟩,xe⟩:=E;have C1:=zh c1;have C2:=zh c2
 clear c1 c2 h1 HD HZP HZl;go_wp2_with fail;refine(C1.out _ (Lt.out.below b1) (Ll.out.below b1) (HB.out.below HG.out b1)).mono ?_;rintro e w2 ⟨rfl,b⟩;have b2:=Below.more b1 b;clear b;have ba:=fun x=>Below.alloc b2 (Below.size b2) x;go_wp2_with fail;obtain⟨U3,hU,bU,s3,rx0,rx1⟩:=lay b2 (.string ⟨x1.toArray⟩) (.string ⟨x2.toArray⟩) 28;rw[hU];clear hU ba s3;replace Lt:=zh (Lt.out.below bU);replace Ll:=zh (Ll.out.below bU);replace BW:=Below.more BW bU;replace HG:=zh (HB.out.below HG.out bU);clear bU;have b3:=Below.refl U3.heap.size U3;go_wp2_with fail;refine(C2.out _ (Lt.out.below b3) (Ll.out.below b3)).mono ?_;rintro e w4 ⟨rfl,b⟩;have b4:=Below.more b3 b;clear b;have ba:=fun x=>Below.alloc b4 (Below.size b4) x;go_wp2_with fail;obtain⟨U5,hU,bU,s5,ry0,ry1⟩:=lay b4 (.string ⟨x1.toArray⟩) (.string ⟨x2.toArray⟩) 28;rw[hU];clear hU ba s5;replace rx0:=fun v (h:Below U5.heap.size U5 v)=>rx0 v (Below.more bU h);replace rx1:=fun v (h:Below U5.heap.size U5 v)=>rx1 v (Below.more bU h);replace Lt:=zh (Lt.out.below bU);replace Ll:=zh (Ll.out.below bU);replace BW:=Below.more BW bU;replace HG:=zh (HB.out.below HG.out bU);clear bU;have b5:=Below.refl U5.heap.size U5;refine(fixed13_any HB.out _ (HB.out.below HG.out b5)).mono ?_;rintro e w6 ⟨rfl,b⟩;have b6:=Below.more b5 b;clear b;go_wp2_with fail;refine(HB.out.needs p c t _ hct (by have:=HP1.out.2.2.1;omega) HZ.out (Lt.out.below b6) (HB.out.below HG.out b6)).mono ?_;rintro e0 U7 ⟨⟨pn,cn,rfl,hcn,hln⟩,b⟩;have bU:=Below.more b6 b;clear b;replace rx0:=fun v (h:Below U7.heap.size U7 v)=>rx0 v (Below.more bU h)
 replace rx1:=fun v (h:Below U7.heap.size U7 v)=>rx1 v (Below.more bU h);replace ry0:=fun v (h:Below U7.heap.size U7 v)=>ry0 v (Below.more bU h);replace ry1:=fun v (h:Below U7.heap.size U7 v)=>ry1 v (Below.more bU h);replace Lt:=zh (Lt.out.below bU);replace Ll:=zh (Ll.out.below bU);replace BW:=Below.more BW bU;replace HG:=zh (HB.out.below HG.out bU);have Ln:=zh hln;clear hln;clear bU;have b7:=Below.refl U7.heap.size U7
 change Hid (Fxs _ _ (nfs t)) at Ln
 change (nfs t).length≤cn at hcn
 rw[show ((Ev.needsK t).map fun k=>(k,(([],[]):Key))).length=(nfs t).length from rfl];go_wp2_with fail;refine(rneeds_any p c t _ hct (by have:=HP1.out.2.2.1;omega) HZ.out (Lt.out.below b7)).mono ?_;rintro e0 U8 ⟨⟨pm,cm,rfl,hcm,hlm⟩,b⟩;have bU:=Below.more b7 b;clear b;replace rx0:=fun v (h:Below U8.heap.size U8 v)=>rx0 v (Below.more bU h);replace rx1:=fun v (h:Below U8.heap.size U8 v)=>rx1 v (Below.more bU h);replace ry0:=fun v (h:Below U8.heap.size U8 v)=>ry0 v (Below.more bU h);replace ry1:=fun v (h:Below U8.heap.size U8 v)=>ry1 v (Below.more bU h);replace Lt:=zh (Lt.out.below bU);replace Ll:=zh (Ll.out.below bU);replace Ln:=zh (Ln.out.below bU);replace BW:=Below.more BW bU;replace HG:=zh (HB.out.below HG.out bU);have Lm:=zh hlm;clear hlm;clear bU;have b8:=Below.refl U8.heap.size U8
 change Hid (Fxs _ _ (nfs t)) at Lm
 change (nfs t).length≤cm at hcm
 rw[show ((Ev.needsK t).map Ev.zf).length=(nfs t).length from rfl];have hNL:(nfs t).length≤4611686018427387904:=nfs_len2 (by have:=HP1.out.2.2.1;omega);generalize nfs t=N at *;go_wp2_with fail;refine(rfsame_any pn pm cn cm N N _ hNL hNL (Ln.out.below b8) (Lm.out.below b8)).mono ?_;rintro e w9 ⟨rfl,b⟩;have b9:=Below.more b8 b;clear b;rw[show (N==N)=true from beq_self_eq_true _]
 (try go_wp2_with fail)
 go_ret;exact⟨ret_bool (by simp[*]),Below.more BW b9⟩
end Go.Proofs.YtghioekjghmdaaaGreatDoor
