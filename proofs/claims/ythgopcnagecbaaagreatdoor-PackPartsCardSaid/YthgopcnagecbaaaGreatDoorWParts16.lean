/- Own work. -/
import Derived.Test.YthgopcnagecbaaaGreatDoorWTells16
set_option linter.unusedSimpArgs false
set_option linter.unusedVariables false
set_option maxHeartbeats 8000000
set_option maxRecDepth 100000
namespace Go.Proofs.YthgopcnagecbaaaGreatDoor
open Go.RowKit
open Pk (Part Pack mayP valueP keepsP ofP)
variable {G : World → Prop}
theorem fold_lq{g:List UInt8→Option Key}:∀ (ps:List Part) (s:Key×Bool) (n:Nat),isR s.1=true→Lq (valR s.1) n→(∀x∈ps,isR x.2=true∧x.2.1.length≤40∧x.2.2.length≤40)→(∀a q,g a=some q→isR q=true∧q.1.length≤40∧q.2.length≤40)→n+ps.length*84≤10000 →
  isR (ps.foldl (Pk.stepW g) s).1=true∧Lq (valR (ps.foldl (Pk.stepW g) s).1) (n+ps.length*84)
 | [],s,n,h1,h2,_,_,_=>⟨h1,h2⟩
 | x::ps,s,n,h1,h2,hp,hg,hn=>by
  have hn':n+(ps.length+1)*84≤10000:=hn;obtain⟨x1,x2,x3⟩:=hp x (List.mem_cons_self ..);have hps:∀y∈ps,isR y.2=true∧y.2.1.length≤40∧y.2.2.length≤40:=fun y hy=>hp y (List.mem_cons_of_mem _ hy);rw[List.foldl_cons];show _∧Lq _ (n+(ps.length+1)*84)
  cases e:g x.1 with
  | none =>
   have e2:Pk.stepW g s x=(s.1,false):=by unfold Pk.stepW;rw[e]
   rw[e2];have k:=fold_lq ps (s.1,false) n h1 h2 hps hg (by omega);exact⟨k.1,k.2.mono (by omega) (by omega)⟩
  | some q =>
   obtain⟨q1,q2,q3⟩:=hg _ _ e;have e2:Pk.stepW g s x=(addR s.1 (mulR x.2 q),s.2):=by unfold Pk.stepW;rw[e]
   rw[e2];have hm:=Pk.wth_good (K:=40) x1 q1 x2 x3 q2 q3 (by decide);have hl:=h2.add (Pk.key_lq hm.1 hm.2.1 hm.2.2 (by decide)) (by omega);have ha:addR s.1 (mulR x.2 q)=rd (valR s.1+valR (mulR x.2 q)):=Pk.add_one _ _ h1 hm.1;have k:=fold_lq ps (addR s.1 (mulR x.2 q),s.2) (n+82+1) (by rw[ha];exact isR_rd _) (by show Lq (valR (addR s.1 (mulR x.2 q))) _;rw[ha,valR_rd];exact hl) hps hg (by omega);exact⟨k.1,k.2.mono (by omega) (by omega)⟩
theorem fold_snoc{ps:List Part}{k:Nat}{x:Part}(h:ps[k]?=some x)(g:List UInt8→Option Key)(s:Key×Bool):(ps.take (k+1)).foldl (Pk.stepW g) s=Pk.stepW g ((ps.take k).foldl (Pk.stepW g) s) x:=by
 rw[List.take_add_one,h,List.foldl_append];rfl
theorem take_one{ps:List Part}{k:Nat}{x:Part}(h:ps[k]?=some x):(ps.drop k).take 1=[x]:=by
 have hk:=(List.getElem?_eq_some_iff.1 h).1;rw[List.drop_eq_getElem_cons hk,List.take_succ_cons,List.take_zero,(List.getElem?_eq_some_iff.1 h).2]
theorem wrap_nat{k:Nat}(h:k≤1000000):wrap64 (k:Int)=(k:Int)∧wrap64 ((k:Int)+1)=(k:Int)+1∧IntKind.i64.wrap ((k:Int)+1)=(k:Int)+1 :=
 ⟨IntWalk.wrap64_in _ ⟨by omega,by omega⟩,IntWalk.wrap64_in _ ⟨by omega,by omega⟩,IntWalk.i64_in _ ⟨by omega,by omega⟩⟩
theorem rows_dropM{α:Type}{enc:α→List Value}{k:Nat}{w:World}{b o:Nat}{l:List α}(h:RowsG enc k w (some ⟨b,o,none⟩) l)(i:Nat):RowsG enc k w (some ⟨b,o+i*k,none⟩) (l.drop i):=fun j x hx=>by
 rw[List.getElem?_drop]at hx;obtain⟨b',o',hp,hl,c⟩:=h (i+j) x hx
 cases hp
 rw[Nat.add_mul,← Nat.add_assoc]at c;exact⟨b,o+i*k,rfl,hl,c⟩
theorem parts16_x(p q:Option Addr)(c d:Nat)(ps:List Part)(un ud:List UInt8)(l:List Fx.Fix)(day:Int)(H:PackC G)(w:World)(hc:ps.length≤c)(hpl:ps.length≤4611686018427387904)(hd:l.length≤d)(hxl:l.length≤4611686018427387904)(hp:Pts w p ps)(hx:Fxs w q l)(hg:G w) :
  Calls Tryz.prog 7 #[.agg #[.slice p ps.length c,.string ⟨un.toArray⟩,.string ⟨ud.toArray⟩],.slice q l.length d,.int .i64 day] w (GiveB w true):=by
 have HB:=zh H;have HG:=zh hg;have HP0:=zh hp;have HX0:=zh hx
 have FX:=zh (fun V g=>fixed16_any H V g);have CLP:=zh (fun V (h:Pts V p ps)=>pklight_y p c ps un ud V hc hpl h);have HZP:Hid (lightP ⟨ps,(un,ud)⟩=true→_):=zh (fun h=>light_sz h);have CLX:=zh (fun V (h:Fxs V q l)=>rfsmall_any q d l V hd hxl h);have HZX:Hid (smallX l=true→_):=zh (fun h=>small_sz h);have HPL:=zh hpl;have HXL:=zh hxl
 clear H hg hp hx hpl hxl;generalize lightP _=lp at CLP HZP;generalize smallX _=lx at CLX HZX;go_enter Tryz.func7,Tryz.ntmps7;have BW:=Below.refl w.heap.size w;have b0:=Below.refl w.heap.size w;go_wp2_with fail;obtain⟨U1,hU,bU,s1,kk⟩:=layN b0 #[.slice p ps.length c,.string ⟨un.toArray⟩,.string ⟨ud.toArray⟩] 28;rw[hU];clear hU;have rp0:=kk 0 _ rfl;have rp1:=kk 1 _ rfl;have rp2:=kk 2 _ rfl
 clear kk;replace BW:=Below.more BW bU;replace HG:=zh (HB.out.below HG.out bU);clear bU;have b1:=Below.refl U1.heap.size U1;clear s1;have LP:=zh (HP0.out.below BW);have LX:=zh (HX0.out.below BW)
 clear HP0 HX0;refine(FX.out _ (HB.out.below HG.out b1)).mono ?_;rintro e w2 ⟨rfl,b⟩;have b2:=Below.more b1 b;clear b;go_wp2_with fail;refine(CLP.out _ (LP.out.below b2)).mono ?_;rintro e w3 ⟨rfl,b⟩;have b3:=Below.more b2 b;clear b
 cases lp with
 | false =>
  go_wp2_with fail;refine(FX.out _ (HB.out.below HG.out b3)).mono ?_;rintro e w4 ⟨rfl,b⟩;have b4:=Below.more b3 b;clear b;go_wp2_with fail;go_ret;exact⟨ret_bool (by first|rfl|simp),Below.more BW b4⟩
 | true =>
 have hzp:=HZP.out (by simp);have HZ4:=zh hzp;have CM:=zh (fun V (h:Pts V p ps)=>pkmay_any p c ps un ud V HPL.out (fun y hy=>⟨hzp.1.1 y hy,Nat.le_trans (hzp.1.2.1 y hy).1 (by decide),Nat.le_trans (hzp.1.2.1 y hy).2 (by decide)⟩) (Nat.le_trans hzp.1.2.2.1 (by decide)) (Nat.le_trans hzp.1.2.2.2 (by decide)) h);have HP4:=zh hzp.2;clear hzp HZP CLP
 cases hm:mayP ⟨ps,(un,ud)⟩ with
 | false =>
  rw[hm]at CM;clear hm;go_wp2_with fail;refine(CM.out _ (LP.out.below b3)).mono ?_;rintro e w4 ⟨rfl,b⟩;have b4:=Below.more b3 b;clear b;go_wp2_with fail;refine(FX.out _ (HB.out.below HG.out b4)).mono ?_;rintro e w5 ⟨rfl,b⟩;have b5:=Below.more b4 b;clear b;go_wp2_with fail;go_ret;exact⟨ret_bool (by first|rfl|simp),Below.more BW b5⟩
 | true =>
 rw[hm]at CM;have HM:=zh hm;clear hm;go_wp2_with fail;refine(CM.out _ (LP.out.below b3)).mono ?_;rintro e w4 ⟨rfl,b⟩;have b4:=Below.more b3 b;clear b;by_cases h3:3<ps.length
 case pos =>
  have h3i:(3:Int)<(ps.length:Int):=by omega
  go_wp2_with fail;refine(FX.out _ (HB.out.below HG.out b4)).mono ?_;rintro e w5 ⟨rfl,b⟩;have b5:=Below.more b4 b;clear b;go_wp2_with fail;go_ret;exact⟨ret_bool (by first|rfl|simp),Below.more BW b5⟩
 case neg =>
 have h3i:¬(3:Int)<(ps.length:Int):=by omega
 go_wp2_with fail;refine(CLX.out _ (LX.out.below b4)).mono ?_;rintro e w5 ⟨rfl,b⟩;have b5:=Below.more b4 b;clear b
 cases lx with
 | false =>
  go_wp2_with fail;refine(FX.out _ (HB.out.below HG.out b5)).mono ?_;rintro e w6 ⟨rfl,b⟩;have b6:=Below.more b5 b;clear b;go_wp2_with fail;go_ret;exact⟨ret_bool (by first|rfl|simp),Below.more BW b6⟩
 | true =>
 have hzx:=HZX.out (by simp);have CX:=zh (fun V (h:Fxs V q l)=>rfmay_any q d l V hd HXL.out (hzx.1.szX (by decide)) h);have HZ5:=zh hzx;clear hzx HZX CLX
 cases hf:Fx.mayF l with
 | false =>
  rw[hf]at CX;clear hf;go_wp2_with fail;refine(CX.out _ (LX.out.below b5)).mono ?_;rintro e w6 ⟨rfl,b⟩;have b6:=Below.more b5 b;clear b;go_wp2_with fail;refine(FX.out _ (HB.out.below HG.out b6)).mono ?_;rintro e w7 ⟨rfl,b⟩;have b7:=Below.more b6 b;clear b;go_wp2_with fail;go_ret;exact⟨ret_bool (by first|rfl|simp),Below.more BW b7⟩
 | true =>
 rw[hf]at CX;have HF:=zh hf;go_wp2_with fail;refine(CX.out _ (LX.out.below b5)).mono ?_;rintro e w6 ⟨rfl,b⟩;have b6:=Below.more b5 b;clear b;have hK:(ps.length+1)*(2*40+3)≤10000:=Nat.le_trans (Nat.mul_le_mul_right _ (by omega:ps.length+1≤5)) (by decide);have hv:valueP ⟨ps,(un,ud)⟩ l day=Pk.sumP (fun a=>Fx.getF l (a,day)) (un,ud) ps:=by unfold valueP;rw[HM.out,hf];rfl
 obtain⟨⟨gn,gd⟩,hgq⟩:∃y,optR (valueP ⟨ps,(un,ud)⟩ l day)=y:=⟨_,rfl⟩;obtain⟨gb,hgb⟩:∃y,(valueP ⟨ps,(un,ud)⟩ l day).isSome=y:=⟨_,rfl⟩;have hxl2:=HZ5.out.2;have CV:Hid (∀V,Pts V p ps→Fxs V q l→G V→Calls Tryz.prog 12 #[.agg #[.slice p ps.length c,.string ⟨un.toArray⟩,.string ⟨ud.toArray⟩],.slice q l.length d,.int .i64 day] V (GiveW V (.tuple #[.agg #[.string ⟨gn.toArray⟩,.string ⟨gd.toArray⟩],.bool gb]))):=zh (fun V h1 h2 g=>by
  have k:=HB.out.value p q c d ⟨ps,(un,ud)⟩ l day 40 V hc hd (by omega) hK (HZ4.out.1.2.mono (by decide)) HZ5.out.1 h1 h2 g;unfold GiveG at k;rw[hgq,hgb]at k;exact k)
 rw[hv,Pk.fold_sum]at hgq hgb;have HGQ:=zh hgq;have HGB:=zh hgb
 have hcr:isR (un,ud)=true:=(Pk.may_iffP.1 HM.out).2;have hgv:∀a y,Fx.getF l (a,day)=some y→isR y=true∧y.1.length≤40∧y.2.length≤40:=fun a y h=>by
  have h0:=h;unfold Fx.getF at h;rw[if_pos hf]at h;exact⟨Pk.get_rat h0,(HZ5.out.1 _ (Fx.raw_some h)).2.1,(HZ5.out.1 _ (Fx.raw_some h)).2.2⟩
 have hpv:∀x∈ps,isR x.2=true∧x.2.1.length≤40∧x.2.2.length≤40:=fun x hx=>⟨(Pk.part_rat ((Pk.may_iffP.1 HM.out).1.1 x hx)).1,Nat.le_trans (HZ4.out.1.2.1 x hx).1 (by decide),Nat.le_trans (HZ4.out.1.2.1 x hx).2 (by decide)⟩;have HLQ:Hid (∀k,k≤ps.length→isR ((ps.take k).foldl (Pk.stepW (fun a=>Fx.getF l (a,day))) ((un,ud),true)).1=true∧Lq (valR ((ps.take k).foldl (Pk.stepW (fun a=>Fx.getF l (a,day))) ((un,ud),true)).1) (20+k*84)):=zh (fun k hk=>by
  have h:=fold_lq (g:=(fun a=>Fx.getF l (a,day))) (ps.take k) ((un,ud),true) 20 hcr (Pk.key_lq hcr HZ4.out.1.2.2.1 HZ4.out.1.2.2.2 (by decide)) (fun x hx=>hpv x (List.mem_of_mem_take hx)) hgv (by rw[List.length_take];omega);rw[List.length_take,Nat.min_eq_left hk]at h;exact h)
 have HGV:=zh hgv;have HPV:=zh hpv
 clear hgq hgb hK hv hcr hgv hpv hf FX CM CX;go_wp2_with fail;refine(CV.out _ (LP.out.below b6) (LX.out.below b6) (HB.out.below HG.out b6)).mono ?_;rintro e w7 ⟨rfl,b⟩;have b7:=Below.more b6 b;clear b;clear CV;have ba:=fun x=>Below.alloc b7 (Below.size b7) x;go_wp2_with fail;clear ba;obtain⟨U8,hU,bU,s8,kk⟩:=layN b7 #[.string ⟨gn.toArray⟩,.string ⟨gd.toArray⟩] 23;rw[hU];clear hU;have rv0:=kk 0 _ rfl;have rv1:=kk 1 _ rfl
 clear kk;replace rp0:=fun v (h:Below U8.heap.size U8 v)=>rp0 v (Below.more bU h);replace rp1:=fun v (h:Below U8.heap.size U8 v)=>rp1 v (Below.more bU h);replace rp2:=fun v (h:Below U8.heap.size U8 v)=>rp2 v (Below.more bU h);replace LP:=zh (LP.out.below bU);replace LX:=zh (LX.out.below bU);replace BW:=Below.more BW bU;replace HG:=zh (HB.out.below HG.out bU);clear bU;have b8:=Below.refl U8.heap.size U8;have hZ:=blk_new U8 #[.string ⟨un.toArray⟩,.string ⟨ud.toArray⟩] 23;have bX:Below U8.heap.size U8 (U8.alloc (.cells #[.string ⟨un.toArray⟩,.string ⟨ud.toArray⟩] 23)):=Below.alloc (Below.refl _ _) (Nat.le_refl _) _;obtain⟨Z,hXe⟩:∃x,U8.heap.size=x:=⟨_,rfl⟩;obtain⟨U9,hUX⟩:∃x,U8.alloc (.cells #[.string ⟨un.toArray⟩,.string ⟨ud.toArray⟩] 23)=x:=⟨_,rfl⟩;rw[hUX]at hZ bX ⊢;rw[hXe]at hZ;have hgZ:=Nat.le_of_eq hXe;have hXs:=s8.trans hXe
 (try rw[hXs])
 clear hXs s8
 (try rw[hXe])
 have b9:=Below.more b8 bX;clear hUX hXe bX;have HZ:=zh hZ;have HZB:=zh b9
 clear hZ b9
 go_loopw [10,11] (fun a i wr=>∃k:Nat,k≤ps.length∧i=.int .i64 k∧a=.bool ((ps.take k).foldl (Pk.stepW (fun a=>Fx.getF l (a,day))) ((un,ud),true)).2∧Hid (Blk Z [.string ⟨((ps.take k).foldl (Pk.stepW (fun a=>Fx.getF l (a,day))) ((un,ud),true)).1.1.toArray⟩,.string ⟨((ps.take k).foldl (Pk.stepW (fun a=>Fx.getF l (a,day))) ((un,ud),true)).1.2.toArray⟩] wr)∧Below U8.heap.size U8 wr) (fun _ i _=>ps.length-(intOf i).toNat)
 case atStart=>exact⟨0,Nat.zero_le _,rfl,rfl,HZ,HZB.out⟩
 case round =>
  clear HZ HZB;obtain⟨k,hk,rfl,rfl,HZ,hw⟩:=hrel;have hlq:=HLQ.out k hk;by_cases hlt:k<ps.length
  ·obtain⟨⟨a,⟨n,e⟩⟩,hx⟩:∃x,ps[k]?=some x:=⟨_,List.getElem?_eq_getElem hlt⟩;have HFS:=zh (fold_snoc hx (fun a=>Fx.getF l (a,day)) ((un,ud),true));obtain⟨⟨⟨sn,sd⟩,sb⟩,hs⟩:∃s,((ps.take k).foldl (Pk.stepW (fun a=>Fx.getF l (a,day))) ((un,ud),true))=s:=⟨_,rfl⟩;rw[hs]at HZ hlq HFS;have HLK:Hid (isR (sn,sd)=true∧Lq (valR (sn,sd)) (20+k*84)):=zh hlq;rw[hs];clear hs hlq;obtain⟨b,o,hp',_,_,_⟩:=pt_rule (LP.out.below hw) hx;subst hp';have HPT:Hid (∀V,Below U8.heap.size U8 V→Pts V (some ⟨b,o+k*3,none⟩) [(a,(n,e))]):=zh (fun V hV=>by
    have h:=rows_takes (rows_dropM (LP.out.below hV) k) 1;rw[take_one hx]at h;exact h)
   have hpx:Pk.partB (a,(n,e))=true:=(Pk.may_iffP.1 HM.out).1.1 _ (List.mem_of_getElem? hx);obtain⟨x1,x2,x3⟩:=HPV.out _ (List.mem_of_getElem? hx);have hsv:=Pk.single_value hpx HF.out day (fun q hq=>(HGV.out _ _ hq).1);obtain⟨⟨mn,md⟩,hmq⟩:∃y,optR ((Fx.getF l (a,day)).map fun q=>mulR (n,e) q)=y:=⟨_,rfl⟩;obtain⟨mb,hmb⟩:∃y,(Fx.getF l (a,day)).isSome=y:=⟨_,rfl⟩;have hcn:1≤c-k:=by omega
   have CV:Hid (∀V,Below U8.heap.size U8 V→Calls Tryz.prog 12 #[.agg #[.slice (some ⟨b,o+k*3,none⟩) 1 (c-k),.string ⟨#[48]⟩,.string ⟨#[49]⟩],.slice q l.length d,.int .i64 day] V (GiveW V (.tuple #[.agg #[.string ⟨mn.toArray⟩,.string ⟨md.toArray⟩],.bool mb]))):=zh (fun V hV=>by
    have k1:=HB.out.value (some ⟨b,o+k*3,none⟩) q (c-k) d ⟨[(a,(n,e))],([48],[49])⟩ l day 40 V hcn hd (by have:=HZ5.out.2;omega) (by simp) ⟨fun y hy=>by rw[List.mem_singleton.1 hy];exact⟨x2,x3⟩,by show ([48]:List UInt8).length≤40;decide,by show ([49]:List UInt8).length≤40;decide⟩ HZ5.out.1 (HPT.out V hV) (LX.out.below hV) (HB.out.below HG.out hV);unfold GiveG at k1;rw[hsv]at k1;have e3:((Fx.getF l (a,day)).map fun q=>mulR (n,e) q).isSome=mb:=by rw[←hmb];cases Fx.getF l (a,day)<;>rfl
    rw[hmq,e3]at k1;exact k1)
   have HMQ:=zh hmq;have HMB:=zh hmb;have HXR:=zh (And.intro x1 (And.intro x2 x3))
   clear hsv hmq hmb hpx hx x1 x2 x3;have hk4:k≤1000000:=by omega
   obtain⟨q9,q8,hwk⟩:=wrap_nat hk4;have q1:(k:Int)≤(k:Int)+1:=by omega
   have q2:(k:Int)+1≤(c:Int):=by omega
   have q3:(0:Int)≤(k:Int):=by omega
   have q4:(0:Int)≤(k:Int)+1:=by omega
   have q5:((k:Int)+1).toNat=k+1:=by omega
   have q6:k+1-k=1:=by omega
   have q7:¬c=k:=by omega
   have bw:=Below.refl wr.heap.size wr;have f0:=fun v (h:Below wr.heap.size wr v)=>rp0 v (Below.more hw h);have f1:=fun v (h:Below wr.heap.size wr v)=>rp1 v (Below.more hw h);have f2:=fun v (h:Below wr.heap.size wr v)=>rp2 v (Below.more hw h)
   go_upto_region 9 with fail
   clear bw;have bz:=Below.refl wr.heap.size wr
   go_cut [12,13] from 60 to 72 (fun t0' t1' V'=>∃V Y,V=V'∧t0'=.pointer (some ⟨Y,0,none⟩)∧t1'=.bool mb∧Blk Y [.string ⟨mn.toArray⟩,.string ⟨md.toArray⟩] V∧Below wr.heap.size wr V)
   case first =>
    refine wp_region_noPanic ?_;refine wp_region_held_drew (S:=fun w'=>Below wr.heap.size wr w') (by kernel_rfl) (bz.drew) (fun hH0=>?_);refine wpAnyH_take (i:=0) (v:=?_) rfl (by kernel_rfl) (by kernel_rfl) (by kernel_rfl) (fun _ _ _ h=>h) (Or.inl ⟨by rfl,?_⟩) (by assumption) ?_;rotate_left 1
    ·(intro w hSw;(try dsimp only at hSw);go_simp<;>(with_reducible rfl))
    try simp only[Act.put,qA,qB,qC,qD,qE,qF]
    refine wpAnyH_take (i:=1) (v:=?_) rfl (by kernel_rfl) (by kernel_rfl) (by kernel_rfl) (fun _ _ _ h=>h) (Or.inl ⟨by rfl,?_⟩) (by assumption) ?_;rotate_left 1
    ·(intro w hSw;(try dsimp only at hSw);go_simp<;>(with_reducible rfl))
    try simp only[Act.put,qA,qB,qC,qD,qE,qF]
    refine wpAnyH_take (i:=2) (v:=?_) rfl (by kernel_rfl) (by kernel_rfl) (by kernel_rfl) (fun _ _ _ h=>h) (Or.inl ⟨by rfl,?_⟩) (by assumption) ?_;rotate_left 1
    ·(intro w hSw;(try dsimp only at hSw);go_simp<;>(with_reducible rfl))
    try simp only[Act.put,qA,qB,qC,qD,qE,qF]
    refine wpAnyH_take (i:=3) (v:=?_) rfl (by kernel_rfl) (by kernel_rfl) (by kernel_rfl) (fun _ _ _ h=>h) (Or.inl ⟨by rfl,?_⟩) (by assumption) ?_;rotate_left 1
    ·(intro w hSw;(try dsimp only at hSw);go_simp<;>(with_reducible rfl))
    try simp only[Act.put,qA,qB,qC,qD,qE,qF]
    refine wpAnyH_take (i:=4) (v:=?_) rfl (by kernel_rfl) (by kernel_rfl) (by kernel_rfl) (fun _ _ _ h=>h) (Or.inl ⟨by rfl,?_⟩) (by assumption) ?_;rotate_left 1
    ·(intro w hSw;(try dsimp only at hSw);go_simp<;>(with_reducible rfl))
    try simp only[Act.put,qA,qB,qC,qD,qE,qF]
    refine wpAnyH_take (i:=5) (v:=?_) rfl (by kernel_rfl) (by kernel_rfl) (by kernel_rfl) (fun _ _ _ h=>h) (Or.inl ⟨by rfl,?_⟩) (by assumption) ?_;rotate_left 1
    ·(intro w hSw;(try dsimp only at hSw);go_simp<;>(with_reducible rfl))
    try simp only[Act.put,qA,qB,qC,qD,qE,qF]
    refine wpAnyH_take (i:=8) (v:=?_) rfl (by kernel_rfl) (by kernel_rfl) (by kernel_rfl) (fun _ _ _ h=>h) (Or.inl ⟨by rfl,?_⟩) (by assumption) ?_;rotate_left 1
    ·(intro w hSw;(try dsimp only at hSw);go_simp<;>(with_reducible rfl))
    try simp only[Act.put,qA,qB,qC,qD,qE,qF]
    refine wpAnyH_take (i:=9) (v:=?_) rfl (by kernel_rfl) (by kernel_rfl) (by kernel_rfl) (fun _ _ _ h=>h) (Or.inl ⟨by rfl,?_⟩) (by assumption) ?_;rotate_left 1
    ·(intro w hSw;(try dsimp only at hSw);go_simp<;>(with_reducible rfl))
    try simp only[Act.put,qA,qB,qC,qD,qE,qF]
    refine wpAnyH_ready (rs:=[6,14]) (by kernel_rfl) (by simp) ?_;refine AllReadyH.cons rfl (fun K hK=>?_) (AllReadyH.cons rfl (fun K hK=>?_) AllReadyH.nil)
    ·go_simp
     refine(pk_o (n:=0) (l:=[48]) (by decide) (by decide) (by decide +kernel) _).mono ?_;rintro e x1 ⟨rfl,hb⟩;have hw:Below wr.heap.size wr x1:=Below.more hH0 hb
     (try go_wp2_with fail)
     refine hK.out _ _ hw (fun hH1=>?_);clear hK hH0 hb hw
     try simp only[Act.put,qA,qB,qC,qD,qE,qF]
     refine wpAnyH_take (i:=7) (v:=?_) rfl (by kernel_rfl) (by kernel_rfl) (by kernel_rfl) (fun _ _ _ h=>h) (Or.inl ⟨by rfl,?_⟩) (by assumption) ?_;rotate_left 1
     ·(intro w hSw;(try dsimp only at hSw);go_simp<;>(with_reducible rfl))
     try simp only[Act.put,qA,qB,qC,qD,qE,qF]
     refine wpAnyH_ready (rs:=[10,14]) (by kernel_rfl) (by simp) ?_;refine AllReadyH.cons rfl (fun K hK=>?_) (AllReadyH.cons rfl (fun K hK=>?_) AllReadyH.nil)
     ·go_simp
      refine(CV.out _ (Below.more hw (by assumption))).mono ?_;rintro e x2 ⟨rfl,hb⟩;have hw:Below wr.heap.size wr x2:=Below.more hH1 hb
      (try go_wp2_with fail)
      refine hK.out _ _ hw (fun hH2=>?_);clear hK hH1 hb hw
      try simp only[Act.put,qA,qB,qC,qD,qE,qF]
      refine wpAnyH_take (i:=11) (v:=?_) rfl (by kernel_rfl) (by kernel_rfl) (by kernel_rfl) (fun _ _ _ h=>h) (Or.inl ⟨by rfl,?_⟩) (by assumption) ?_;rotate_left 1
      ·(intro w hSw;(try dsimp only at hSw);go_simp<;>(with_reducible rfl))
      try simp only[Act.put,qA,qB,qC,qD,qE,qF]
      refine wpAnyH_take (i:=12) (v:=?_) rfl (by kernel_rfl) (by kernel_rfl) (by kernel_rfl) (fun _ _ _ h=>h) (Or.inl ⟨by rfl,?_⟩) (by assumption) ?_;rotate_left 1
      ·(intro w hSw;(try dsimp only at hSw);go_simp<;>(with_reducible rfl))
      try simp only[Act.put,qA,qB,qC,qD,qE,qF]
      refine wpAnyH_take (i:=13) (v:=?_) rfl (by kernel_rfl) (by kernel_rfl) (by kernel_rfl) (fun _ _ _ h=>h) (Or.inl ⟨by rfl,?_⟩) (by assumption) ?_;rotate_left 1
      ·(intro w hSw;(try dsimp only at hSw);go_simp<;>(with_reducible rfl))
      try simp only[Act.put,qA,qB,qC,qD,qE,qF]
      refine wpAnyH_ready (rs:=[14]) (by kernel_rfl) (by simp) ?_;refine AllReadyH.cons rfl (fun K hK=>?_) AllReadyH.nil
      go_simp
      have hY:=blk_new x2 #[.string ⟨#[]⟩,.string ⟨#[]⟩] 23;have bb:Below x2.heap.size x2 (x2.alloc (.cells #[.string ⟨#[]⟩,.string ⟨#[]⟩] 23)):=Below.alloc (Below.refl _ _) (Nat.le_refl _) _;have hge:wr.heap.size≤x2.heap.size:=hH2.size;obtain⟨Y,hYe⟩:∃Y,x2.heap.size=Y:=⟨_,rfl⟩;obtain⟨x3,hU⟩:∃Z9,x2.alloc (.cells #[.string ⟨#[]⟩,.string ⟨#[]⟩] 23)=Z9:=⟨_,rfl⟩;rw[hU]at hY bb ⊢;have hw:Below wr.heap.size wr x3:=Below.more hH2 bb;replace hge:wr.heap.size≤Y:=hYe▸hge;rw[hYe]at hY
      (try rw[hYe])
      clear hU hYe bb;refine hK.out _ _ hw (fun hH3=>?_);clear hK hH2 hw
      try simp only[Act.put,qA,qB,qC,qD,qE,qF]
      have y0:=hY.c 0 _ rfl;have z0:=hY.f 0 (by simp)
      have y1:=hY.c 1 _ rfl;have z1:=hY.f 1 (by simp)
      refine wpAnyH_ready (rs:=[15]) (by kernel_rfl) (by simp) ?_;refine AllReadyH.cons rfl (fun K hK=>?_) AllReadyH.nil
      go_simp
      have hY2:=((hY.set 0 (by simp) (.string ⟨mn.toArray⟩)).set 1 (by simp) (.string ⟨md.toArray⟩));refine hK.out _ _ (Below.setCell (Below.setCell (hH3) (hge) _) (hge) _) (fun hH4=>?_);clear hK hY y0 z0 y1 z1
      try simp only[Act.put,qA,qB,qC,qD,qE,qF]
      refine wpAnyH_take (i:=16) (v:=?_) rfl (by kernel_rfl) (by kernel_rfl) (by kernel_rfl) (fun _ _ _ h=>h) (Or.inl ⟨by rfl,?_⟩) (by assumption) ?_;rotate_left 1
      ·(intro w hSw;(try dsimp only at hSw);go_simp<;>(with_reducible rfl))
      try simp only[Act.put,qA,qB,qC,qD,qE,qF]
      refine wpAnyH_done (by kernel_rfl) ?_ _;refine NoPanic.normal ?_;go_wp2_with fail
      go_meet
      exact⟨_,Y,rfl,rfl,rfl,hY2,hH4⟩
     ·go_simp
      have hY:=blk_new x1 #[.string ⟨#[]⟩,.string ⟨#[]⟩] 23;have bb:Below x1.heap.size x1 (x1.alloc (.cells #[.string ⟨#[]⟩,.string ⟨#[]⟩] 23)):=Below.alloc (Below.refl _ _) (Nat.le_refl _) _;have hge:wr.heap.size≤x1.heap.size:=hH1.size;obtain⟨Y,hYe⟩:∃Y,x1.heap.size=Y:=⟨_,rfl⟩;obtain⟨x2,hU⟩:∃Z9,x1.alloc (.cells #[.string ⟨#[]⟩,.string ⟨#[]⟩] 23)=Z9:=⟨_,rfl⟩;rw[hU]at hY bb ⊢;have hw:Below wr.heap.size wr x2:=Below.more hH1 bb;replace hge:wr.heap.size≤Y:=hYe▸hge;rw[hYe]at hY
      (try rw[hYe])
      clear hU hYe bb;refine hK.out _ _ hw (fun hH2=>?_);clear hK hH1 hw
      try simp only[Act.put,qA,qB,qC,qD,qE,qF]
      refine wpAnyH_ready (rs:=[10]) (by kernel_rfl) (by simp) ?_;refine AllReadyH.cons rfl (fun K hK=>?_) AllReadyH.nil
      go_simp
      refine(CV.out _ (Below.more hw (by assumption))).mono ?_;rintro e x3 ⟨rfl,hb⟩;have hw:Below wr.heap.size wr x3:=Below.more hH2 hb;replace hY:=hY.below hb
      (try go_wp2_with fail)
      refine hK.out _ _ hw (fun hH3=>?_);clear hK hH2 hb hw
      try simp only[Act.put,qA,qB,qC,qD,qE,qF]
      refine wpAnyH_take (i:=11) (v:=?_) rfl (by kernel_rfl) (by kernel_rfl) (by kernel_rfl) (fun _ _ _ h=>h) (Or.inl ⟨by rfl,?_⟩) (by assumption) ?_;rotate_left 1
      ·(intro w hSw;(try dsimp only at hSw);go_simp<;>(with_reducible rfl))
      try simp only[Act.put,qA,qB,qC,qD,qE,qF]
      refine wpAnyH_take (i:=12) (v:=?_) rfl (by kernel_rfl) (by kernel_rfl) (by kernel_rfl) (fun _ _ _ h=>h) (Or.inl ⟨by rfl,?_⟩) (by assumption) ?_;rotate_left 1
      ·(intro w hSw;(try dsimp only at hSw);go_simp<;>(with_reducible rfl))
      try simp only[Act.put,qA,qB,qC,qD,qE,qF]
      refine wpAnyH_take (i:=13) (v:=?_) rfl (by kernel_rfl) (by kernel_rfl) (by kernel_rfl) (fun _ _ _ h=>h) (Or.inl ⟨by rfl,?_⟩) (by assumption) ?_;rotate_left 1
      ·(intro w hSw;(try dsimp only at hSw);go_simp<;>(with_reducible rfl))
      try simp only[Act.put,qA,qB,qC,qD,qE,qF]
      have y0:=hY.c 0 _ rfl;have z0:=hY.f 0 (by simp)
      have y1:=hY.c 1 _ rfl;have z1:=hY.f 1 (by simp)
      refine wpAnyH_ready (rs:=[15]) (by kernel_rfl) (by simp) ?_;refine AllReadyH.cons rfl (fun K hK=>?_) AllReadyH.nil
      go_simp
      have hY2:=((hY.set 0 (by simp) (.string ⟨mn.toArray⟩)).set 1 (by simp) (.string ⟨md.toArray⟩));refine hK.out _ _ (Below.setCell (Below.setCell (hH3) (hge) _) (hge) _) (fun hH4=>?_);clear hK hY y0 z0 y1 z1
      try simp only[Act.put,qA,qB,qC,qD,qE,qF]
      refine wpAnyH_take (i:=16) (v:=?_) rfl (by kernel_rfl) (by kernel_rfl) (by kernel_rfl) (fun _ _ _ h=>h) (Or.inl ⟨by rfl,?_⟩) (by assumption) ?_;rotate_left 1
      ·(intro w hSw;(try dsimp only at hSw);go_simp<;>(with_reducible rfl))
      try simp only[Act.put,qA,qB,qC,qD,qE,qF]
      refine wpAnyH_done (by kernel_rfl) ?_ _;refine NoPanic.normal ?_;go_wp2_with fail
      go_meet
      exact⟨_,Y,rfl,rfl,rfl,hY2,hH4⟩
    ·go_simp
     have hY:=(blk_new wr #[.string ⟨#[]⟩,.string ⟨#[]⟩] 23).drew;have bb:Below wr.heap.size wr ((wr.alloc (.cells #[.string ⟨#[]⟩,.string ⟨#[]⟩] 23)).drew):=(Below.alloc (Below.refl _ _) (Nat.le_refl _) _).drew;have hge:wr.heap.size≤wr.heap.size:=bz.size;obtain⟨Y,hYe⟩:∃Y,wr.heap.size=Y:=⟨_,rfl⟩;obtain⟨x1,hU⟩:∃Z9,(wr.alloc (.cells #[.string ⟨#[]⟩,.string ⟨#[]⟩] 23)).drew=Z9:=⟨_,rfl⟩;rw[hU]at hY bb ⊢;have hw:Below wr.heap.size wr x1:=Below.more bz bb;replace hge:wr.heap.size≤Y:=hYe▸hge;rw[hYe]at hY
     (try rw[hYe])
     clear hU hYe bb;refine hK.out _ _ hw (fun hH1=>?_);clear hK hH0 hw
     try simp only[Act.put,qA,qB,qC,qD,qE,qF]
     refine wpAnyH_ready (rs:=[6]) (by kernel_rfl) (by simp) ?_;refine AllReadyH.cons rfl (fun K hK=>?_) AllReadyH.nil
     go_simp
     refine(pk_o (n:=0) (l:=[48]) (by decide) (by decide) (by decide +kernel) _).mono ?_;rintro e x2 ⟨rfl,hb⟩;have hw:Below wr.heap.size wr x2:=Below.more hH1 hb;replace hY:=hY.below hb
     (try go_wp2_with fail)
     refine hK.out _ _ hw (fun hH2=>?_);clear hK hH1 hb hw
     try simp only[Act.put,qA,qB,qC,qD,qE,qF]
     refine wpAnyH_take (i:=7) (v:=?_) rfl (by kernel_rfl) (by kernel_rfl) (by kernel_rfl) (fun _ _ _ h=>h) (Or.inl ⟨by rfl,?_⟩) (by assumption) ?_;rotate_left 1
     ·(intro w hSw;(try dsimp only at hSw);go_simp<;>(with_reducible rfl))
     try simp only[Act.put,qA,qB,qC,qD,qE,qF]
     refine wpAnyH_ready (rs:=[10]) (by kernel_rfl) (by simp) ?_;refine AllReadyH.cons rfl (fun K hK=>?_) AllReadyH.nil
     go_simp
     refine(CV.out _ (Below.more hw (by assumption))).mono ?_;rintro e x3 ⟨rfl,hb⟩;have hw:Below wr.heap.size wr x3:=Below.more hH2 hb;replace hY:=hY.below hb
     (try go_wp2_with fail)
     refine hK.out _ _ hw (fun hH3=>?_);clear hK hH2 hb hw
     try simp only[Act.put,qA,qB,qC,qD,qE,qF]
     refine wpAnyH_take (i:=11) (v:=?_) rfl (by kernel_rfl) (by kernel_rfl) (by kernel_rfl) (fun _ _ _ h=>h) (Or.inl ⟨by rfl,?_⟩) (by assumption) ?_;rotate_left 1
     ·(intro w hSw;(try dsimp only at hSw);go_simp<;>(with_reducible rfl))
     try simp only[Act.put,qA,qB,qC,qD,qE,qF]
     refine wpAnyH_take (i:=12) (v:=?_) rfl (by kernel_rfl) (by kernel_rfl) (by kernel_rfl) (fun _ _ _ h=>h) (Or.inl ⟨by rfl,?_⟩) (by assumption) ?_;rotate_left 1
     ·(intro w hSw;(try dsimp only at hSw);go_simp<;>(with_reducible rfl))
     try simp only[Act.put,qA,qB,qC,qD,qE,qF]
     refine wpAnyH_take (i:=13) (v:=?_) rfl (by kernel_rfl) (by kernel_rfl) (by kernel_rfl) (fun _ _ _ h=>h) (Or.inl ⟨by rfl,?_⟩) (by assumption) ?_;rotate_left 1
     ·(intro w hSw;(try dsimp only at hSw);go_simp<;>(with_reducible rfl))
     try simp only[Act.put,qA,qB,qC,qD,qE,qF]
     have y0:=hY.c 0 _ rfl;have z0:=hY.f 0 (by simp)
     have y1:=hY.c 1 _ rfl;have z1:=hY.f 1 (by simp)
     refine wpAnyH_ready (rs:=[15]) (by kernel_rfl) (by simp) ?_;refine AllReadyH.cons rfl (fun K hK=>?_) AllReadyH.nil
     go_simp
     have hY2:=((hY.set 0 (by simp) (.string ⟨mn.toArray⟩)).set 1 (by simp) (.string ⟨md.toArray⟩));refine hK.out _ _ (Below.setCell (Below.setCell (hH3) (hge) _) (hge) _) (fun hH4=>?_);clear hK hY y0 z0 y1 z1
     try simp only[Act.put,qA,qB,qC,qD,qE,qF]
     refine wpAnyH_take (i:=16) (v:=?_) rfl (by kernel_rfl) (by kernel_rfl) (by kernel_rfl) (fun _ _ _ h=>h) (Or.inl ⟨by rfl,?_⟩) (by assumption) ?_;rotate_left 1
     ·(intro w hSw;(try dsimp only at hSw);go_simp<;>(with_reducible rfl))
     try simp only[Act.put,qA,qB,qC,qD,qE,qF]
     refine wpAnyH_done (by kernel_rfl) ?_ _;refine NoPanic.normal ?_;go_wp2_with fail
     go_meet
     exact⟨_,Y,rfl,rfl,rfl,hY2,hH4⟩
   case rest =>
   obtain⟨U51,Ym,hVe,rfl,rfl,hYm,bU⟩:=hcut;subst hVe;replace f0:=fun v (h:Below U51.heap.size U51 v)=>f0 v (Below.more bU h);replace f1:=fun v (h:Below U51.heap.size U51 v)=>f1 v (Below.more bU h);replace f2:=fun v (h:Below U51.heap.size U51 v)=>f2 v (Below.more bU h);have hW2:=Below.more hw bU;replace HZ:=zh (HZ.out.below bU);have rm0:∀v,Below U51.heap.size U51 v→_:=fun v hv=>(hYm.below hv).c 0 _ rfl;have rm1:∀v,Below U51.heap.size U51 v→_:=fun v hv=>(hYm.below hv).c 1 _ rfl
   clear hYm;clear bU;have b51:=Below.refl U51.heap.size U51;clear CV HPT f0 f1 f2 q1 q2 q3 q4 q5 q6 q7 q8 q9;have m0:=rm0 _ b51;have m1:=rm1 _ b51
   have hZc:=HZ.out
   cases mb with
   | false =>
    have hnone:Fx.getF l (a,day)=none:=by have k1:=HMB.out;revert k1;cases Fx.getF l (a,day)<;>simp
    have HST:Hid (((ps.take (k+1)).foldl (Pk.stepW (fun a=>Fx.getF l (a,day))) ((un,ud),true))=((sn,sd),false)):=zh (by rw[HFS.out];unfold Pk.stepW;dsimp only;rw[hnone]);clear hnone hZc
    cases sb with
    | false =>
     go_wp2_with fail;go_roundw
     case rel=>exact⟨k+1,hlt,by go_num,(by rw[HST.out]<;>(first|rfl|simp)),by rw[HST.out];exact HZ,hW2⟩
     case measure=>simp[intOf];omega
    | true =>
     go_wp2_with fail;go_roundw
     case rel=>exact⟨k+1,hlt,by go_num,(by rw[HST.out]<;>(first|rfl|simp)),by rw[HST.out];exact HZ,hW2⟩
     case measure=>simp[intOf];omega
   | true =>
    obtain⟨y,hy⟩:∃y,Fx.getF l (a,day)=some y:=by have k1:=HMB.out;revert k1;cases Fx.getF l (a,day)<;>simp
    have hmq:=HMQ.out;rw[hy]at hmq;have hmq:mulR (n,e) y=(mn,md):=hmq;obtain⟨g1,g2,g3⟩:=HGV.out _ _ hy;obtain⟨x1,x2,x3⟩:=HXR.out;have hmg:=Pk.wth_good (K:=40) x1 g1 x2 x3 g2 g3 (by decide);rw[hmq]at hmg;obtain⟨⟨tn,td⟩,htq⟩:∃t,addR (sn,sd) (mn,md)=t:=⟨_,rfl⟩;have HST:Hid (((ps.take (k+1)).foldl (Pk.stepW (fun a=>Fx.getF l (a,day))) ((un,ud),true))=((tn,td),sb)):=zh (by rw[HFS.out];unfold Pk.stepW;dsimp only;rw[hy];dsimp only;rw[hmq,htq]);have CA:Hid (∀V,Calls Tryz.prog 22 #[.agg #[.string ⟨sn.toArray⟩,.string ⟨sd.toArray⟩],.agg #[.string ⟨mn.toArray⟩,.string ⟨md.toArray⟩]] V (GiveW V (.agg #[.string ⟨tn.toArray⟩,.string ⟨td.toArray⟩]))):=zh (fun V=>by
     have hr:=rd_valR HLK.out.1;have s1:=HLK.out.2.len1;have s2:=HLK.out.2.len2
     rw[show rdN (valR (sn,sd))=sn from congrArg Prod.fst hr]at s1;rw[show rdD (valR (sn,sd))=sd from congrArg Prod.snd hr]at s2;have m2:mn.length≤82:=hmg.2.1;have m3:md.length≤82:=hmg.2.2;have k1:=rqadd_any ⟨sn.toArray⟩ ⟨sd.toArray⟩ ⟨mn.toArray⟩ ⟨md.toArray⟩ V (by rw[size_of];omega) (by rw[size_of];omega) (by rw[size_of];omega) (by rw[size_of];omega);rw[show addR ((⟨sn.toArray⟩:ByteArray).data.toList,(⟨sd.toArray⟩:ByteArray).data.toList) ((⟨mn.toArray⟩:ByteArray).data.toList,(⟨md.toArray⟩:ByteArray).data.toList)=(tn,td) from htq]at k1;exact k1)
    clear hy hmq g1 g2 g3 x1 x2 x3 hmg htq HLK;have v0:=hZc.c 0 _ rfl;have v1:=hZc.c 1 _ rfl
    clear hZc
    cases sb with
    | false =>
     go_wp2_with fail;refine(CA.out _).mono ?_;rintro e8 w8 ⟨rfl,b8⟩;have hZ8:=HZ.out.below b8;have hW8:=Below.more hW2 b8;have y0:=hZ8.c 0 _ rfl;have y1:=hZ8.c 1 _ rfl;have z0:=hZ8.f 0 (by simp);have z1:=hZ8.f 1 (by simp)
     have HZ9:=zh (blk_put2 hZ8 (.string ⟨tn.toArray⟩) (.string ⟨td.toArray⟩));have HW9:=zh (Below.setCell (Below.setCell hW8 hgZ _) hgZ _:Below U8.heap.size U8 ((w8.setCell ⟨Z,0,none⟩ (.string ⟨tn.toArray⟩)).setCell ⟨Z,1,none⟩ (.string ⟨td.toArray⟩)));clear hZ8 hW8 b8 v0 v1;go_wp2_with fail;go_roundw
     case rel=>exact⟨k+1,hlt,by go_num,(by rw[HST.out]<;>(first|rfl|simp)),by rw[HST.out];exact HZ9,HW9.out⟩
     case measure=>simp[intOf];omega
    | true =>
     go_wp2_with fail;refine(CA.out _).mono ?_;rintro e8 w8 ⟨rfl,b8⟩;have hZ8:=HZ.out.below b8;have hW8:=Below.more hW2 b8;have y0:=hZ8.c 0 _ rfl;have y1:=hZ8.c 1 _ rfl;have z0:=hZ8.f 0 (by simp);have z1:=hZ8.f 1 (by simp)
     have HZ9:=zh (blk_put2 hZ8 (.string ⟨tn.toArray⟩) (.string ⟨td.toArray⟩));have HW9:=zh (Below.setCell (Below.setCell hW8 hgZ _) hgZ _:Below U8.heap.size U8 ((w8.setCell ⟨Z,0,none⟩ (.string ⟨tn.toArray⟩)).setCell ⟨Z,1,none⟩ (.string ⟨td.toArray⟩)));clear hZ8 hW8 b8 v0 v1;go_wp2_with fail;go_roundw
     case rel=>exact⟨k+1,hlt,by go_num,(by rw[HST.out]<;>(first|rfl|simp)),by rw[HST.out];exact HZ9,HW9.out⟩
     case measure=>simp[intOf];omega
  ·obtain rfl:k=ps.length:=by omega
   have hgq:=HGQ.out;have hgb:=HGB.out
   have e9:((ps.take ps.length).foldl (Pk.stepW (fun a=>Fx.getF l (a,day))) ((un,ud),true))=ps.foldl (Pk.stepW (fun a=>Fx.getF l (a,day))) ((un,ud),true):=by rw[List.take_length]
   rw[e9]at HZ ⊢;clear hlq e9;generalize ps.foldl (Pk.stepW (fun a=>Fx.getF l (a,day))) ((un,ud),true)=s at *;obtain⟨⟨sn,sd⟩,sb⟩:=s;dsimp only at HZ hgq hgb;have hZ:=HZ.out;have v0:=rv0 _ hw;have v1:=rv1 _ hw
   have y0:=hZ.c 0 _ rfl;have y1:=hZ.c 1 _ rfl
   have f0:=rp0 _ hw;have f1:=rp1 _ hw;have f2:=rp2 _ hw
   clear hZ
   cases sb with
   | false =>
    obtain rfl:false=gb:=by rw[if_neg (by decide)]at hgb;exact hgb
    clear hgq hgb;go_wp2_with fail;go_ret;exact⟨ret_bool (by first|rfl|simp),Below.more BW hw⟩
   | true =>
    obtain rfl:true=gb:=by rw[if_pos rfl]at hgb;exact hgb
    rw[if_pos rfl]at hgq;obtain⟨rfl,rfl⟩:sn=gn∧sd=gd:=Prod.mk.inj hgq;clear hgq hgb;go_wp2_with fail;go_ret;exact⟨ret_bool (by first|rfl|simp),Below.more BW hw⟩
end Go.Proofs.YthgopcnagecbaaaGreatDoor
