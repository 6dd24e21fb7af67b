/- Own work. -/
import Derived.Test.YthgopcnagecbaaaGreatDoorAllRefM1
set_option linter.unusedSimpArgs false
set_option linter.unusedVariables false
set_option maxHeartbeats 4000000
set_option maxRecDepth 100000
namespace Go.Proofs.YthgopcnagecbaaaGreatDoor
open Go.RowKit
open Pk (Part Pack mayP valueP keepsP ofP)
open Pk (sumV sumV_app sumV_one sumV_lq sum_two GoodN wthP sumP_all sumP_none wth_good partB mayP)
theorem take_snocM{ps:List Part}{k:Nat}{x:Part}(h:ps[k]?=some x)(f:Part→Key):(ps.take (k+1)).map f=(ps.take k).map f++[f x]:=by
 rw[List.take_add_one,h,List.map_append];rfl
theorem sum_snoc(L:List Key){m:Key}(h:isR m=true):addR (rd (sumV L)) m=rd (sumV (L++[m])):=by
 have k:=sum_two L [m]
 rwa[sumV_one h]at k
theorem below_wr{U V V':World}{Z:Nat}(h:Below U.heap.size U V)(g:WrB [Z] V V')(hZ:U.heap.size≤Z):Below U.heap.size U V' :=
 h.trans (g.below (fun x hx=>by rw[List.mem_singleton.1 hx];exact hZ) h.size)
theorem pkvalue_x(p q:Option Addr)(c d:Nat)(ps:List Part)(cn cd:List UInt8)(l:List Fx.Fix)(day:Int)(K:Nat)(w:World)(hc:ps.length≤c)(hd:l.length≤d)(hl:l.length≤1000)(hK:(ps.length+1)*(2*K+3)≤10000)(hn:∀y∈ps,y.1.length≤4611686018427387904)(hz:SzPk K ⟨ps,(cn,cd)⟩)(hf:SzFx K l)(h:Pts w p ps)(h':Fxs w q l) :
  Calls Tryz.prog 13 #[.agg #[.slice p ps.length c,.string ⟨cn.toArray⟩,.string ⟨cd.toArray⟩],.slice q l.length d,.int .i64 day] w (GiveG w (valueP ⟨ps,(cn,cd)⟩ l day)):=by
 have hk1:ps.length+1≤10000:=Nat.le_trans (Nat.le_mul_of_pos_right _ (by omega)) hK;have hk2:2*K+3≤10000:=Nat.le_trans (Nat.le_mul_of_pos_left _ (Nat.succ_pos _)) hK;have CP:Hid (∀V,Below w.heap.size w V→Calls Tryz.prog 18 #[.agg #[.slice p ps.length c,.string ⟨cn.toArray⟩,.string ⟨cd.toArray⟩]] V (GiveB V (mayP ⟨ps,(cn,cd)⟩))):=zh (fun V hV=>pkmay_any p c ps cn cd V (by omega) (fun y hy=>⟨hn y hy,Nat.le_trans (hz.1 y hy).1 (by omega),Nat.le_trans (hz.1 y hy).2 (by omega)⟩) (Nat.le_trans hz.2.1 (by omega)) (Nat.le_trans hz.2.2 (by omega)) (h.below hV));have CX:Hid (∀V,Below w.heap.size w V→Calls Tryz.prog 27 #[.slice q l.length d] V (GiveB V (Fx.mayF l))):=zh (fun V hV=>rfmay_any q d l V hd (by omega) (hf.szX (by omega)) (h'.below hV));have HS:=zh h;have HT:=zh h';have HZZ:=zh hz;have HF:=zh hf
 clear h h' hz hf hn;go_enter Tryz.func13,Tryz.ntmps13;go_wp2_with fail;obtain⟨W,hW,BW,sW,kk⟩:=layN (Below.refl w.heap.size w) #[.slice p ps.length c,.string ⟨cn.toArray⟩,.string ⟨cd.toArray⟩] 28;rw[hW];clear hW;have hX:=blk_new W #[.string ⟨#[]⟩,.string ⟨#[]⟩] 23;have bX:Below W.heap.size W (W.alloc (.cells #[.string ⟨#[]⟩,.string ⟨#[]⟩] 23)):=Below.alloc (Below.refl _ _) (Nat.le_refl _) _;have hXU:W.heap.size<(W.alloc (.cells #[.string ⟨#[]⟩,.string ⟨#[]⟩] 23)).heap.size:=by simp
 obtain⟨U,hU⟩:∃U,W.alloc (.cells #[.string ⟨#[]⟩,.string ⟨#[]⟩] 23)=U:=⟨_,rfl⟩;rw[hU]at hX bX hXU ⊢;clear hU;rw[←sW]at hX;have hle2:w.heap.size≤w.heap.size+1:=by omega
 have k0:∀v,Below U.heap.size U v→_:=fun v hv=>kk 0 _ rfl v (Below.more bX hv);have k1:∀v,Below U.heap.size U v→_:=fun v hv=>kk 1 _ rfl v (Below.more bX hv);have k2:∀v,Below U.heap.size U v→_:=fun v hv=>kk 2 _ rfl v (Below.more bX hv)
 have BU:=Below.more BW bX;have HU:Hid (w.heap.size+1<U.heap.size):=zh (by omega);clear kk bX BW hXU sW;have b0:=Below.refl U.heap.size U
 (try go_wp2_with fail)
 refine(CP.out _ BU).mono ?_;rintro e1 w1 ⟨rfl,b⟩;have b1:=Below.more b0 b;replace hX:=hX.below b;clear b b0
 cases hm:mayP ⟨ps,(cn,cd)⟩ with
 | false =>
  have HE:Hid (valueP ⟨ps,(cn,cd)⟩ l day=none):=zh (by unfold valueP;rw[hm];rfl);clear hm;have y0:=hX.c 0 _ rfl;have y1:=hX.c 1 _ rfl;have z0:=hX.f 0 (by simp);have z1:=hX.f 1 (by simp)
  go_wp2_with fail;refine bodyPost_ret (v:=.tuple #[.agg #[.string ⟨#[]⟩,.string ⟨#[]⟩],.bool false]) (by simp[results,Tryz.results13,go_sem, *]) rfl ⟨by rw[HE.out];first|done|rfl,?_⟩;exact Below.setCell (Below.setCell (Below.more BU b1) (hle2) _) (hle2) _
 | true =>
 go_wp2_with fail;refine(CX.out _ (Below.more BU b1)).mono ?_;rintro e2 w2 ⟨rfl,b⟩;have b2:=Below.more b1 b;replace hX:=hX.below b;clear b b1
 cases hx:Fx.mayF l with
 | false =>
  have HE:Hid (valueP ⟨ps,(cn,cd)⟩ l day=none):=zh (by unfold valueP;rw[hm,hx];rfl);clear hm hx;have y0:=hX.c 0 _ rfl;have y1:=hX.c 1 _ rfl;have z0:=hX.f 0 (by simp);have z1:=hX.f 1 (by simp)
  go_wp2_with fail;refine bodyPost_ret (v:=.tuple #[.agg #[.string ⟨#[]⟩,.string ⟨#[]⟩],.bool false]) (by simp[results,Tryz.results13,go_sem, *]) rfl ⟨by rw[HE.out];first|done|rfl,?_⟩;exact Below.setCell (Below.setCell (Below.more BU b2) (hle2) _) (hle2) _
 | true =>
 have HM:=zh hm;have HMX:=zh hx
 have HV:Hid (valueP ⟨ps,(cn,cd)⟩ l day=Pk.sumP (fun a=>Fx.getF l (a,day)) (cn,cd) ps):=zh (by unfold valueP;rw[hm,hx];rfl);have hcr:isR (cn,cd)=true:=(Pk.may_iffP.1 hm).2;clear hm hx CP CX;obtain⟨Z,hZe⟩:∃Z,w2.heap.size=Z:=⟨_,rfl⟩;have hZ:Blk Z [.string ⟨(rdN (sumV [(cn,cd)])).toArray⟩,.string ⟨(rdD (sumV [(cn,cd)])).toArray⟩] (w2.alloc (.cells #[.string ⟨cn.toArray⟩,.string ⟨cd.toArray⟩] 23)):=by
  have e:=sumV_one hcr;rw[show (rdN (sumV [(cn,cd)]))=cn from congrArg Prod.fst e,show (rdD (sumV [(cn,cd)]))=cd from congrArg Prod.snd e,← hZe];exact blk_new w2 _ _
 have b3:Below U.heap.size U (w2.alloc (.cells #[.string ⟨cn.toArray⟩,.string ⟨cd.toArray⟩] 23)):=Below.alloc b2 b2.size _;have hX3:=hX.below (Below.alloc (Below.refl w2.heap.size w2) (Nat.le_refl _) (.cells #[.string ⟨cn.toArray⟩,.string ⟨cd.toArray⟩] 23));have HZ0:=zh hZ;have HB:=zh b3;have HX:=zh hX3
 have hZU:U.heap.size≤Z:=hZe▸b2.size;have HZX:Hid (w.heap.size+1≠Z):=zh (by have:=HU.out;omega);have j0:=k0 w2 b2;have j1:=k1 w2 b2;have j2:=k2 w2 b2
 clear hX hX3 hZ b3;have ba:=fun x=>Below.alloc b2 b2.size x;go_wp2_with fail
 (try rw[hZe])
 clear ba hZe
 go_loopw [9] (fun i wr=>∃k:Nat,k≤ps.length∧i=.int .i64 k∧Hid (∀j x,j<k→ps[j]?=some x→∃y,Fx.getF l (x.1,day)=some y)∧Hid (Blk Z [.string ⟨(rdN (sumV ((cn,cd)::(ps.take k).map (wthP (fun a=>Fx.getF l (a,day)))))).toArray⟩,.string ⟨(rdD (sumV ((cn,cd)::(ps.take k).map (wthP (fun a=>Fx.getF l (a,day)))))).toArray⟩] wr)∧Hid (Blk (w.heap.size+1) [.string ⟨#[]⟩,.string ⟨#[]⟩] wr)∧Below U.heap.size U wr) (fun i _=>ps.length-(intOf i).toNat)
 case atStart=>exact⟨0,Nat.zero_le _,rfl,fun j x h=>absurd h (Nat.not_lt_zero j),HZ0.out,HX.out,HB.out⟩
 case round =>
  clear HZ0 HX HB j0 j1 j2 b2;obtain⟨k,hk,rfl,HJ,HZ,HX,hw⟩:=hrel;have hpre:∀x,x∈ps.take k→isR x.2=true∧∃y,Fx.getF l (x.1,day)=some y∧isR y=true∧y.1.length≤K∧y.2.length≤K:=fun x hx=>by
   obtain⟨j,hj,e⟩:=List.getElem_of_mem hx;have hj2:j<k:=by rw[List.length_take]at hj;omega
   have hxj:ps[j]?=some x:=by rw[←List.getElem?_take_of_lt hj2,List.getElem?_eq_getElem hj,e]
   obtain⟨y,hy⟩:=HJ.out j x hj2 hxj;refine⟨(Pk.part_rat ((Pk.may_iffP.1 HM.out).1.1 x (List.mem_of_mem_take hx))).1,y,hy,Pk.get_rat hy,?_⟩;unfold Fx.getF at hy;rw[if_pos HMX.out]at hy;exact⟨(HF.out _ (Fx.raw_some hy)).2.1,(HF.out _ (Fx.raw_some hy)).2.2⟩
  have hgn:GoodN (2*K+2) ((cn,cd)::(ps.take k).map (wthP (fun a=>Fx.getF l (a,day)))):=fun x hx=>by
   rcases List.mem_cons.1 hx with rfl|hx
   ·exact⟨hcr,Nat.le_trans HZZ.out.2.1 (by omega),Nat.le_trans HZZ.out.2.2 (by omega)⟩
   ·obtain⟨y,hy,rfl⟩:=List.mem_map.1 hx;obtain⟨h1,z,h2,h3,h4,h5⟩:=hpre y hy;have e:wthP (fun a=>Fx.getF l (a,day)) y=mulR y.2 z:=by unfold wthP;dsimp only;rw[h2];rfl
    rw[e];exact wth_good h1 h3 (HZZ.out.1 y (List.mem_of_mem_take hy)).1 (HZZ.out.1 y (List.mem_of_mem_take hy)).2 h4 h5 (by omega)
  by_cases hlt:k<ps.length
  ·obtain⟨⟨a,⟨n,e⟩⟩,hx⟩:∃x,ps[k]?=some x:=⟨_,List.getElem?_eq_getElem hlt⟩;obtain⟨b,o,rfl,i0,i1,i2⟩:=pt_rule (HS.out.below (Below.more BU hw)) hx;have hpx:partB (a,(n,e))=true:=(Pk.may_iffP.1 HM.out).1.1 _ (List.mem_of_getElem? hx);have hnr:isR (n,e)=true:=(Pk.part_rat hpx).1;have HXK:=zh hx;have hsz:=HZZ.out.1 _ (List.mem_of_getElem? hx);dsimp only at hsz;have HNR:=zh hnr;have HSZ:=zh hsz
   have hll:(((cn,cd)::(ps.take k).map (wthP (fun a=>Fx.getF l (a,day)))).length)*(2*K+2+1)≤10000:=Nat.le_trans (Nat.mul_le_mul_right _ (by simp;omega)) hK;have HLQ:=zh (sumV_lq ((cn,cd)::(ps.take k).map (wthP (fun a=>Fx.getF l (a,day)))) (by simp) hgn hll);clear hpx hx hnr hsz hpre hgn hll;obtain⟨⟨gn,gd⟩,hgq⟩:∃y,optR (Fx.getF l (a,day))=y:=⟨_,rfl⟩;obtain⟨gb,hgb⟩:∃y,(Fx.getF l (a,day)).isSome=y:=⟨_,rfl⟩;have CG:Hid (∀V',Below w.heap.size w V'→Calls Tryz.prog 34 #[.slice q l.length d,.string ⟨a.toArray⟩,.int .i64 day] V' (fun e w'=>e=.returned (.tuple #[.agg #[.string ⟨gn.toArray⟩,.string ⟨gd.toArray⟩],.bool gb])∧Below V'.heap.size V' w')):=zh (fun V' hV'=>by
    have k:=rfget_any q d l a day V' hd (by omega) (HF.out.szX (by omega)) (HT.out.below hV');unfold GiveG at k;rw[hgq,hgb]at k;exact k)
   have HGQ:=zh hgq;have HGB:=zh hgb
   clear hgq hgb;have bw:=Below.refl wr.heap.size wr;have j0:=k0 wr hw;have j1:=k1 wr hw;have j2:=k2 wr hw
   go_wp2_with fail;refine(CG.out _ (Below.more BU hw)).mono ?_;rintro e3 w3 ⟨rfl,b3⟩;replace HX:=zh (HX.out.below b3);replace HZ:=zh (HZ.out.below b3);have hW3:=Below.more hw b3;clear j0 j1 j2 bw CG
   cases gb with
   | false =>
    have HE:Hid (valueP ⟨ps,(cn,cd)⟩ l day=none):=zh (by rw[HV.out];exact sumP_none _ _ ⟨_,List.mem_of_getElem? HXK.out,by have k:=HGB.out;revert k;cases Fx.getF l (a,day)<;>simp⟩);have ba:∀x,Below w3.heap.size w3 (w3.alloc x):=fun x=>Below.alloc (Below.refl w3.heap.size w3) (Nat.le_refl _) x;have hX4:=HX.out.below (ba (.cells #[.string ⟨gn.toArray⟩,.string ⟨gd.toArray⟩] 23));have bA:=Below.more hW3 (ba (.cells #[.string ⟨gn.toArray⟩,.string ⟨gd.toArray⟩] 23));have HBA:=zh bA;have y0:=hX4.c 0 _ rfl;have y1:=hX4.c 1 _ rfl;have z0:=hX4.f 0 (by simp);have z1:=hX4.f 1 (by simp)
    clear hX4 ba bA;go_wp2_with fail;refine bodyPost_ret (v:=.tuple #[.agg #[.string ⟨#[]⟩,.string ⟨#[]⟩],.bool false]) (by simp[results,Tryz.results13,go_sem, *]) rfl ⟨by rw[HE.out];first|done|rfl,?_⟩;exact Below.setCell (Below.setCell (Below.more BU HBA.out) (hle2) _) (hle2) _
   | true =>
    have HG:Hid (Fx.getF l (a,day)=some (gn,gd)):=zh (by
     have k:=HGB.out;have k2:=HGQ.out
     revert k k2
     cases Fx.getF l (a,day) with
     | none=>intro k;cases k
     | some y=>intro _ k2;exact congrArg some k2)
    have hgr:isR (gn,gd)=true:=Pk.get_rat HG.out;have hgz:gn.length≤K∧gd.length≤K:=by
     have hg:=HG.out;unfold Fx.getF at hg;rw[if_pos HMX.out]at hg;exact⟨(HF.out _ (Fx.raw_some hg)).2.1,(HF.out _ (Fx.raw_some hg)).2.2⟩
    have hsz:=HSZ.out;have hnr:=HNR.out
    obtain⟨⟨mn,md⟩,hmq⟩:∃y,mulR (n,e) (gn,gd)=y:=⟨_,rfl⟩;have hmg:=wth_good hnr hgr hsz.1 hsz.2 hgz.1 hgz.2 (by omega);rw[hmq]at hmg;have CQ:Hid (∀V',Calls Tryz.prog 26 #[.agg #[.string ⟨n.toArray⟩,.string ⟨e.toArray⟩],.agg #[.string ⟨gn.toArray⟩,.string ⟨gd.toArray⟩]] V' (fun e w'=>e=.returned (.agg #[.string ⟨mn.toArray⟩,.string ⟨md.toArray⟩])∧Below V'.heap.size V' w')):=zh (fun V'=>by
     have k:=rqmul_any ⟨n.toArray⟩ ⟨e.toArray⟩ ⟨gn.toArray⟩ ⟨gd.toArray⟩ V' (by rw[size_of];omega) (by rw[size_of];omega) (by rw[size_of];omega) (by rw[size_of];omega);rw[show mulR ((⟨n.toArray⟩:ByteArray).data.toList,(⟨e.toArray⟩:ByteArray).data.toList) ((⟨gn.toArray⟩:ByteArray).data.toList,(⟨gd.toArray⟩:ByteArray).data.toList)=(mn,md) from hmq]at k;exact k)
    have HWT:Hid (((cn,cd)::(ps.take (k+1)).map (wthP (fun a=>Fx.getF l (a,day))))=((cn,cd)::(ps.take k).map (wthP (fun a=>Fx.getF l (a,day))))++[(mn,md)]):=zh (by
     rw[take_snocM HXK.out,show wthP (fun a=>Fx.getF l (a,day)) (a,(n,e))=(mn,md) by unfold wthP;dsimp only;rw[HG.out];exact hmq];rfl)
    have HJ2:Hid (∀j x,j<k+1→ps[j]?=some x→∃y,Fx.getF l (x.1,day)=some y):=zh (fun j x hj hx=>by
     rcases Nat.lt_succ_iff_lt_or_eq.1 hj with h|h
     ·exact HJ.out j x h hx
     ·rw[h,HXK.out]at hx;cases hx;exact⟨_,HG.out⟩)
    generalize ((cn,cd)::(ps.take k).map (wthP (fun a=>Fx.getF l (a,day))))=L at *;have CA:Hid (∀V',Calls Tryz.prog 22 #[.agg #[.string ⟨(rdN (sumV L)).toArray⟩,.string ⟨(rdD (sumV L)).toArray⟩],.agg #[.string ⟨mn.toArray⟩,.string ⟨md.toArray⟩]] V' (fun e w'=>e=.returned (.agg #[.string ⟨(rdN (sumV (L++[(mn,md)]))).toArray⟩,.string ⟨(rdD (sumV (L++[(mn,md)]))).toArray⟩])∧Below V'.heap.size V' w')):=zh (fun V'=>by
     have s1:=HLQ.out.s1;have s2:=HLQ.out.s2
     have hm2:=hmg.2.1;have hm3:=hmg.2.2
     dsimp only at hm2 hm3;have k:=rqadd_any ⟨(rdN (sumV L)).toArray⟩ ⟨(rdD (sumV L)).toArray⟩ ⟨mn.toArray⟩ ⟨md.toArray⟩ V' (by omega) (by omega) (by rw[size_of];omega) (by rw[size_of];omega);rw[show addR ((⟨(rdN (sumV L)).toArray⟩:ByteArray).data.toList,(⟨(rdD (sumV L)).toArray⟩:ByteArray).data.toList) ((⟨mn.toArray⟩:ByteArray).data.toList,(⟨md.toArray⟩:ByteArray).data.toList)=rd (sumV (L++[(mn,md)])) from sum_snoc L hmg.1]at k;exact k)
    clear hgr hgz hsz hnr hmq hmg HLQ;obtain⟨Y,hYe⟩:∃Y,w3.heap.size=Y:=⟨_,rfl⟩;have hY:=blk_new w3 #[.string ⟨gn.toArray⟩,.string ⟨gd.toArray⟩] 23;have bY:Below w3.heap.size w3 (w3.alloc (.cells #[.string ⟨gn.toArray⟩,.string ⟨gd.toArray⟩] 23)):=Below.alloc (Below.refl _ _) (Nat.le_refl _) _;have HYZ:Hid (Y≠Z):=zh (by have:=HZ.out.lt;omega);have ba:∀x,Below w3.heap.size w3 (w3.alloc x):=fun x=>Below.alloc (Below.refl w3.heap.size w3) (Nat.le_refl _) x
    go_upto_region 10 with fail
    clear ba;obtain⟨V,hVe⟩:∃V,w3.alloc (.cells #[.string ⟨gn.toArray⟩,.string ⟨gd.toArray⟩] 23)=V:=⟨_,rfl⟩;rw[hVe]at hY bY ⊢;rw[hYe]at hY
    (try rw[hYe])
    clear hVe hYe;replace HX:=zh (HX.out.below bY);replace HZ:=zh (HZ.out.below bY);have HWV:=zh (Below.more hW3 bY);have toU:∀v,WrB [Z] V v→Below U.heap.size U v:=fun v hv=>below_wr HWV.out hv hZU;obtain⟨b',o',hp',m0,m1,m2⟩:=pt_rule HS.out HXK.out
    cases hp'
    have g0:∀v,WrB [Z] V v→_:=fun v hv=>(hY.wr hv (fun c=>HYZ.out (List.mem_singleton.1 c))).c 0 _ rfl;have g1:∀v,WrB [Z] V v→_:=fun v hv=>(hY.wr hv (fun c=>HYZ.out (List.mem_singleton.1 c))).c 1 _ rfl;have f0:∀v,WrB [Z] V v→_:=fun v hv=>k0 v (toU v hv);have f1:∀v,WrB [Z] V v→_:=fun v hv=>m1 v (Below.more BU (toU v hv));have f2:∀v,WrB [Z] V v→_:=fun v hv=>m2 v (Below.more BU (toU v hv));clear hY bY i0 i1 i2 m0 m1 m2 k0 k1 k2 hw b3 hW3 toU;refine wp_region_noPanic ?_;refine wp_region_held_drew (S:=fun w'=>WrB [Z] V w') (by kernel_rfl) (WrB.of_below (Below.drew (Below.refl _ _)) _) (fun hH0=>?_);have hZ0:=HZ.out.drew;refine wpAnyH_take (i:=1) (v:=?_) rfl (by kernel_rfl) (by kernel_rfl) (by kernel_rfl) (fun _ _ _ h=>h) (Or.inl ⟨by rfl,?_⟩) (by assumption) ?_;rotate_left 1
    ·(intro w hSw;(try dsimp only at hSw);go_simp<;>(with_reducible rfl))
    try simp only[Act.put,qA,qB,qC,qD,qE,qF]
    refine wpAnyH_take (i:=2) (v:=?_) rfl (by kernel_rfl) (by kernel_rfl) (by kernel_rfl) (fun _ _ _ h=>h) (Or.inl ⟨by rfl,?_⟩) (by assumption) ?_;rotate_left 1
    ·(intro w hSw;(try dsimp only at hSw);go_simp<;>(with_reducible rfl))
    try simp only[Act.put,qA,qB,qC,qD,qE,qF]
    refine wpAnyH_take (i:=3) (v:=?_) rfl (by kernel_rfl) (by kernel_rfl) (by kernel_rfl) (fun _ _ _ h=>h) (Or.inl ⟨by rfl,?_⟩) (by assumption) ?_;rotate_left 1
    ·(intro w hSw;(try dsimp only at hSw);go_simp<;>(with_reducible rfl))
    try simp only[Act.put,qA,qB,qC,qD,qE,qF]
    refine wpAnyH_take (i:=4) (v:=?_) rfl (by kernel_rfl) (by kernel_rfl) (by kernel_rfl) (fun _ _ _ h=>h) (Or.inl ⟨by rfl,?_⟩) (by assumption) ?_;rotate_left 1
    ·(intro w hSw;(try dsimp only at hSw);go_simp<;>(with_reducible rfl))
    try simp only[Act.put,qA,qB,qC,qD,qE,qF]
    refine wpAnyH_take (i:=5) (v:=?_) rfl (by kernel_rfl) (by kernel_rfl) (by kernel_rfl) (fun _ _ _ h=>h) (Or.inl ⟨by rfl,?_⟩) (by assumption) ?_;rotate_left 1
    ·(intro w hSw;(try dsimp only at hSw);go_simp<;>(with_reducible rfl))
    try simp only[Act.put,qA,qB,qC,qD,qE,qF]
    refine wpAnyH_take (i:=6) (v:=?_) rfl (by kernel_rfl) (by kernel_rfl) (by kernel_rfl) (fun _ _ _ h=>h) (Or.inl ⟨by rfl,?_⟩) (by assumption) ?_;rotate_left 1
    ·(intro w hSw;(try dsimp only at hSw);go_simp<;>(with_reducible rfl))
    try simp only[Act.put,qA,qB,qC,qD,qE,qF]
    refine wpAnyH_take (i:=7) (v:=?_) rfl (by kernel_rfl) (by kernel_rfl) (by kernel_rfl) (fun _ _ _ h=>h) (Or.inl ⟨by rfl,?_⟩) (by assumption) ?_;rotate_left 1
    ·(intro w hSw;(try dsimp only at hSw);go_simp<;>(with_reducible rfl))
    try simp only[Act.put,qA,qB,qC,qD,qE,qF]
    refine wpAnyH_ready (rs:=[0,8]) (by kernel_rfl) (by simp) ?_;refine AllReadyH.cons rfl (fun K hK=>?_) (AllReadyH.cons rfl (fun K hK=>?_) AllReadyH.nil)
    ·have y0:=hZ0.c 0 _ rfl;have y1:=hZ0.c 1 _ rfl
     go_simp
     refine hK.out _ _ hH0 (fun hH1=>?_);have hZ1:=hZ0;clear hK hH0 hZ0 y0 y1
     try simp only[Act.put,qA,qB,qC,qD,qE,qF]
     refine wpAnyH_ready (rs:=[8]) (by kernel_rfl) (by simp) ?_;refine AllReadyH.cons rfl (fun K hK=>?_) AllReadyH.nil
     go_simp
     refine(CQ.out _).mono ?_;rintro e x2 ⟨rfl,hb⟩;have hw:WrB [Z] V x2:=hH1.trans (WrB.of_below hb _);have hZ2:=hZ1.below hb
     (try go_wp2_with fail)
     refine hK.out _ _ hw (fun hH2=>?_);clear hK hH1 hb hw hZ1
     try simp only[Act.put,qA,qB,qC,qD,qE,qF]
     refine wpAnyH_ready (rs:=[9]) (by kernel_rfl) (by simp) ?_;refine AllReadyH.cons rfl (fun K hK=>?_) AllReadyH.nil
     go_simp
     refine(CA.out _).mono ?_;rintro e x3 ⟨rfl,hb⟩;have hw:WrB [Z] V x3:=hH2.trans (WrB.of_below hb _);have hZ3:=hZ2.below hb
     (try go_wp2_with fail)
     refine hK.out _ _ hw (fun hH3=>?_);clear hK hH2 hb hw hZ2
     try simp only[Act.put,qA,qB,qC,qD,qE,qF]
     have y0:=hZ3.c 0 _ rfl;have y1:=hZ3.c 1 _ rfl;have z0:=hZ3.f 0 (by simp);have z1:=hZ3.f 1 (by simp)
     refine wpAnyH_ready (rs:=[10]) (by kernel_rfl) (by simp) ?_;refine AllReadyH.cons rfl (fun K hK=>?_) AllReadyH.nil
     go_simp
     have hZZ:=blk_put2 hZ3 (.string ⟨(rdN (sumV (L++[(mn,md)]))).toArray⟩) (.string ⟨(rdD (sumV (L++[(mn,md)]))).toArray⟩);have hw:WrB [Z] V _:=(hH3.trans (WrB.of_set _ Z 0 (.string ⟨(rdN (sumV (L++[(mn,md)]))).toArray⟩) (List.mem_singleton.2 rfl))).trans (WrB.of_set _ Z 1 (.string ⟨(rdD (sumV (L++[(mn,md)]))).toArray⟩) (List.mem_singleton.2 rfl));refine hK.out _ _ hw (fun hH4=>?_);clear hK
     try simp only[Act.put,qA,qB,qC,qD,qE,qF]
     refine wpAnyH_done (by kernel_rfl) ?_ _;refine NoPanic.normal ?_;clear y0 y1 z0 z1;have Q:Hid (Blk Z [.string ⟨(rdN (sumV (L++[(mn,md)]))).toArray⟩,.string ⟨(rdD (sumV (L++[(mn,md)]))).toArray⟩] _∧WrB [Z] V _):=zh ⟨hZZ,hH4⟩;clear hZZ hH4 hw hZ3;go_wp2_with fail;go_roundw
     case rel=>exact⟨k+1,hlt,by go_num,HJ2.out,zh (by rw[HWT.out];exact Q.out.1),zh (HX.out.wr Q.out.2 (fun c=>HZX.out (List.mem_singleton.1 c))),below_wr HWV.out Q.out.2 hZU⟩
     case measure=>simp[intOf];omega
    ·go_simp
     refine(CQ.out _).mono ?_;rintro e x1 ⟨rfl,hb⟩;have hw:WrB [Z] V x1:=hH0.trans (WrB.of_below hb _);have hZ1:=hZ0.below hb
     (try go_wp2_with fail)
     refine hK.out _ _ hw (fun hH1=>?_);clear hK hH0 hb hw hZ0
     try simp only[Act.put,qA,qB,qC,qD,qE,qF]
     refine wpAnyH_ready (rs:=[0]) (by kernel_rfl) (by simp) ?_;refine AllReadyH.cons rfl (fun K hK=>?_) AllReadyH.nil;have y0:=hZ1.c 0 _ rfl;have y1:=hZ1.c 1 _ rfl
     go_simp
     refine hK.out _ _ hH1 (fun hH2=>?_);have hZ2:=hZ1;clear hK hH1 hZ1 y0 y1
     try simp only[Act.put,qA,qB,qC,qD,qE,qF]
     refine wpAnyH_ready (rs:=[9]) (by kernel_rfl) (by simp) ?_;refine AllReadyH.cons rfl (fun K hK=>?_) AllReadyH.nil
     go_simp
     refine(CA.out _).mono ?_;rintro e x3 ⟨rfl,hb⟩;have hw:WrB [Z] V x3:=hH2.trans (WrB.of_below hb _);have hZ3:=hZ2.below hb
     (try go_wp2_with fail)
     refine hK.out _ _ hw (fun hH3=>?_);clear hK hH2 hb hw hZ2
     try simp only[Act.put,qA,qB,qC,qD,qE,qF]
     have y0:=hZ3.c 0 _ rfl;have y1:=hZ3.c 1 _ rfl;have z0:=hZ3.f 0 (by simp);have z1:=hZ3.f 1 (by simp)
     refine wpAnyH_ready (rs:=[10]) (by kernel_rfl) (by simp) ?_;refine AllReadyH.cons rfl (fun K hK=>?_) AllReadyH.nil
     go_simp
     have hZZ:=blk_put2 hZ3 (.string ⟨(rdN (sumV (L++[(mn,md)]))).toArray⟩) (.string ⟨(rdD (sumV (L++[(mn,md)]))).toArray⟩);have hw:WrB [Z] V _:=(hH3.trans (WrB.of_set _ Z 0 (.string ⟨(rdN (sumV (L++[(mn,md)]))).toArray⟩) (List.mem_singleton.2 rfl))).trans (WrB.of_set _ Z 1 (.string ⟨(rdD (sumV (L++[(mn,md)]))).toArray⟩) (List.mem_singleton.2 rfl));refine hK.out _ _ hw (fun hH4=>?_);clear hK
     try simp only[Act.put,qA,qB,qC,qD,qE,qF]
     refine wpAnyH_done (by kernel_rfl) ?_ _;refine NoPanic.normal ?_;clear y0 y1 z0 z1;have Q:Hid (Blk Z [.string ⟨(rdN (sumV (L++[(mn,md)]))).toArray⟩,.string ⟨(rdD (sumV (L++[(mn,md)]))).toArray⟩] _∧WrB [Z] V _):=zh ⟨hZZ,hH4⟩;clear hZZ hH4 hw hZ3;go_wp2_with fail;go_roundw
     case rel=>exact⟨k+1,hlt,by go_num,HJ2.out,zh (by rw[HWT.out];exact Q.out.1),zh (HX.out.wr Q.out.2 (fun c=>HZX.out (List.mem_singleton.1 c))),below_wr HWV.out Q.out.2 hZU⟩
     case measure=>simp[intOf];omega
  ·obtain rfl:k=ps.length:=by omega
   rw[List.take_length]at hpre;have HE:Hid (valueP ⟨ps,(cn,cd)⟩ l day=some (rd (sumV ((cn,cd)::ps.map (wthP (fun a=>Fx.getF l (a,day))))))):=zh (by
    rw[HV.out,sumP_all ps (cn,cd) hcr (fun x hx=>⟨(hpre x hx).1,by obtain⟨_,y,h1,h2,_⟩:=hpre x hx;exact⟨y,h1,h2⟩⟩)])
   have hZ:=HZ.out;rw[List.take_length]at hZ;generalize ((cn,cd)::ps.map (wthP (fun a=>Fx.getF l (a,day))))=L at *;have hX:=HX.out;have j0:=k0 wr hw;have j1:=k1 wr hw;have j2:=k2 wr hw
   have v0:=hZ.c 0 _ rfl;have v1:=hZ.c 1 _ rfl
   have y0:=hX.c 0 _ rfl;have y1:=hX.c 1 _ rfl;have z0:=hX.f 0 (by simp);have z1:=hX.f 1 (by simp)
   clear hX hZ HZ hpre hgn k0 k1 k2;go_wp2_with fail;refine bodyPost_ret (v:=.tuple #[.agg #[.string ⟨(rdN (sumV L)).toArray⟩,.string ⟨(rdD (sumV L)).toArray⟩],.bool true]) (by simp[results,Tryz.results13,go_sem, *]) rfl ⟨by rw[HE.out];first|done|rfl,?_⟩;exact Below.setCell (Below.setCell (Below.more BU hw) (hle2) _) (hle2) _
theorem pkvalue_any(p q:Option Addr)(c d:Nat)(x:Pack)(l:List Fx.Fix)(day:Int)(K:Nat)(w:World)(hc:x.parts.length≤c)(hd:l.length≤d)(hl:l.length≤1000)(hK:(x.parts.length+1)*(2*K+3)≤10000)(hn:∀y∈x.parts,y.1.length≤4611686018427387904)(hz:SzPk K x)(hf:SzFx K l)(h:Pts w p x.parts)(h':Fxs w q l) :
  Calls Tryz.prog 13 #[.agg #[.slice p x.parts.length c,.string ⟨x.cash.1.toArray⟩,.string ⟨x.cash.2.toArray⟩],.slice q l.length d,.int .i64 day] w (GiveG w (valueP x l day)) :=
 pkvalue_x p q c d x.parts x.cash.1 x.cash.2 l day K w hc hd hl hK hn hz hf h h'
end Go.Proofs.YthgopcnagecbaaaGreatDoor
