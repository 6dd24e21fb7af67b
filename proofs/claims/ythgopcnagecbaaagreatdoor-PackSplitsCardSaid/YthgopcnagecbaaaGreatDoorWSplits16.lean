/- Own work. -/
import Derived.Test.YthgopcnagecbaaaGreatDoorWMay16
set_option linter.unusedSimpArgs false
set_option linter.unusedVariables false
set_option maxHeartbeats 8000000
set_option maxRecDepth 100000
namespace Go.Proofs.YthgopcnagecbaaaGreatDoor
open Go.RowKit
open Pk (Part Pack mayP valueP keepsP ofP)
variable {G : World → Prop}
theorem splits16_x(rn rd pn pd:List UInt8)(H:PackC G)(w:World)(hg:G w):Calls Tryz.prog 6 #[.agg #[.string ⟨rn.toArray⟩,.string ⟨rd.toArray⟩],.agg #[.string ⟨pn.toArray⟩,.string ⟨pd.toArray⟩]] w (GiveB w true):=by
 have HB:=zh H;have HG:=zh hg
 have FX:=zh (fun V g=>fixed16_any H V g);clear H hg;have CPM0:Hid (pn.length≤20→pd.length≤20→∀V,Calls Tryz.prog 21 #[.agg #[.string ⟨pn.toArray⟩,.string ⟨pd.toArray⟩]] V (GiveB V (isR (pn,pd)))):=zh (fun h1 h2 V=>rqmay_any ⟨pn.toArray⟩ ⟨pd.toArray⟩ V (by rw[size_of];omega) (by rw[size_of];omega));have CRM0:Hid (rn.length≤20→rd.length≤20→∀V,Calls Tryz.prog 21 #[.agg #[.string ⟨rn.toArray⟩,.string ⟨rd.toArray⟩]] V (GiveB V (isR (rn,rd)))):=zh (fun h1 h2 V=>rqmay_any ⟨rn.toArray⟩ ⟨rd.toArray⟩ V (by rw[size_of];omega) (by rw[size_of];omega));have CRS0:Hid (rn.length≤20→rd.length≤20→∀V,Calls Tryz.prog 25 #[.agg #[.string ⟨rn.toArray⟩,.string ⟨rd.toArray⟩]] V (GiveI V (sgnR (rn,rd)))):=zh (fun h1 h2 V=>rqsign_any ⟨rn.toArray⟩ ⟨rd.toArray⟩ V (by rw[size_of];omega) (by rw[size_of];omega));go_enter Tryz.func6,Tryz.ntmps6;have BW:=Below.refl w.heap.size w;have b0:=Below.refl w.heap.size w;go_wp2_with fail;obtain⟨U1,hU,bU,s1,kk⟩:=layN b0 #[.string ⟨rn.toArray⟩,.string ⟨rd.toArray⟩] 23;rw[hU];clear hU;have rr0:=kk 0 _ rfl;have rr1:=kk 1 _ rfl
 clear kk;replace BW:=Below.more BW bU;replace HG:=zh (HB.out.below HG.out bU);clear bU;have b1:=Below.refl U1.heap.size U1;obtain⟨U2,hU,bU,s2,kk⟩:=layN b1 #[.string ⟨pn.toArray⟩,.string ⟨pd.toArray⟩] 23;rw[hU];clear hU;rw[←s1]at kk;have rq0:=kk 0 _ rfl;have rq1:=kk 1 _ rfl
 clear kk;replace rr0:=fun v (h:Below U2.heap.size U2 v)=>rr0 v (Below.more bU h);replace rr1:=fun v (h:Below U2.heap.size U2 v)=>rr1 v (Below.more bU h);replace BW:=Below.more BW bU;replace HG:=zh (HB.out.below HG.out bU);clear bU;have b2:=Below.refl U2.heap.size U2;clear s1;clear s2;refine(FX.out _ (HB.out.below HG.out b2)).mono ?_;rintro e w3 ⟨rfl,b⟩;have b3:=Below.more b2 b;clear b;by_cases l0:20<rn.length
 case pos =>
  have li:(20:Int)<(rn.length:Int):=by omega
  go_wp2_with fail;refine(FX.out _ (HB.out.below HG.out b3)).mono ?_;rintro e w4 ⟨rfl,b⟩;have b4:=Below.more b3 b;clear b;go_wp2_with fail;go_ret;exact⟨ret_bool (by first|rfl|simp),Below.more BW b4⟩
 case neg =>
 have li0:¬(20:Int)<(rn.length:Int):=by omega
 by_cases l1:20<rd.length
 case pos =>
  have li:(20:Int)<(rd.length:Int):=by omega
  go_wp2_with fail;refine(FX.out _ (HB.out.below HG.out b3)).mono ?_;rintro e w4 ⟨rfl,b⟩;have b4:=Below.more b3 b;clear b;go_wp2_with fail;go_ret;exact⟨ret_bool (by first|rfl|simp),Below.more BW b4⟩
 case neg =>
 have li1:¬(20:Int)<(rd.length:Int):=by omega
 by_cases l2:20<pn.length
 case pos =>
  have li:(20:Int)<(pn.length:Int):=by omega
  go_wp2_with fail;refine(FX.out _ (HB.out.below HG.out b3)).mono ?_;rintro e w4 ⟨rfl,b⟩;have b4:=Below.more b3 b;clear b;go_wp2_with fail;go_ret;exact⟨ret_bool (by first|rfl|simp),Below.more BW b4⟩
 case neg =>
 have li2:¬(20:Int)<(pn.length:Int):=by omega
 by_cases l3:20<pd.length
 case pos =>
  have li:(20:Int)<(pd.length:Int):=by omega
  go_wp2_with fail;refine(FX.out _ (HB.out.below HG.out b3)).mono ?_;rintro e w4 ⟨rfl,b⟩;have b4:=Below.more b3 b;clear b;go_wp2_with fail;go_ret;exact⟨ret_bool (by first|rfl|simp),Below.more BW b4⟩
 case neg =>
 have li3:¬(20:Int)<(pd.length:Int):=by omega
 have CPM:=zh (CPM0.out (by omega) (by omega));have CRM:=zh (CRM0.out (by omega) (by omega));have CRS:=zh (CRS0.out (by omega) (by omega))
 clear CPM0 CRM0 CRS0
 cases hpm:isR (pn,pd) with
 | false =>
  rw[hpm]at CPM;clear hpm;go_wp2_with fail;refine(CPM.out _).mono ?_;rintro e w4 ⟨rfl,b⟩;have b4:=Below.more b3 b;clear b;go_wp2_with fail;refine(FX.out _ (HB.out.below HG.out b4)).mono ?_;rintro e w5 ⟨rfl,b⟩;have b5:=Below.more b4 b;clear b;go_wp2_with fail;go_ret;exact⟨ret_bool (by first|rfl|simp),Below.more BW b5⟩
 | true =>
 rw[hpm]at CPM;go_wp2_with fail;refine(CPM.out _).mono ?_;rintro e w4 ⟨rfl,b⟩;have b4:=Below.more b3 b;clear b
 cases hrm:isR (rn,rd) with
 | false =>
  rw[hrm]at CRM;clear hrm;go_wp2_with fail;refine(CRM.out _).mono ?_;rintro e w5 ⟨rfl,b⟩;have b5:=Below.more b4 b;clear b;go_wp2_with fail;refine(FX.out _ (HB.out.below HG.out b5)).mono ?_;rintro e w6 ⟨rfl,b⟩;have b6:=Below.more b5 b;clear b;go_wp2_with fail;go_ret;exact⟨ret_bool (by first|rfl|simp),Below.more BW b6⟩
 | true =>
 rw[hrm]at CRM;go_wp2_with fail;refine(CRM.out _).mono ?_;rintro e w5 ⟨rfl,b⟩;have b5:=Below.more b4 b;clear b;generalize hsg:sgnR (rn,rd)=sg at CRS;by_cases hs:sg≤0
 case pos =>
  clear hsg;go_wp2_with fail;refine(CRS.out _).mono ?_;rintro e w6 ⟨rfl,b⟩;have b6:=Below.more b5 b;clear b;go_wp2_with fail;refine(FX.out _ (HB.out.below HG.out b6)).mono ?_;rintro e w7 ⟨rfl,b⟩;have b7:=Below.more b6 b;clear b;go_wp2_with fail;go_ret;exact⟨ret_bool (by first|rfl|simp),Below.more BW b7⟩
 case neg =>
 go_wp2_with fail;refine(CRS.out _).mono ?_;rintro e w6 ⟨rfl,b⟩;have b6:=Below.more b5 b;clear b
 go_upto_region 3 with fail
 obtain⟨v0,v1,v2⟩:=Pk.splits (r:=(rn,rd)) (q:=(pn,pd)) hrm (by rw[hsg];omega) (by show rn.length≤20;omega) (by show rd.length≤20;omega) hpm;have hn:=Pk.num_named hrm (by rw[hsg];omega) (by show rn.length≤20;omega) (by show rd.length≤20;omega);have hs0:=sz_of (Pk.act_may (k:=0) (.inl rfl) hn (Pk.num_zero _));have hs1:=sz_of (Pk.act_may (k:=1) (.inr (.inl rfl)) hn (Pk.num_zero _));have hs2:=sz_of (Pk.act_may (k:=2) (.inr (.inr rfl)) (Pk.num_zero _) hn);have n0:=(Pk.of_may (Pk.act_may (k:=0) (.inl rfl) hn (Pk.num_zero _))).2.1;have n1:=(Pk.of_may (Pk.act_may (k:=1) (.inr (.inl rfl)) hn (Pk.num_zero _))).2.1;have n2:=(Pk.of_may (Pk.act_may (k:=2) (.inr (.inr rfl)) (Pk.num_zero _) hn)).2.1;obtain⟨P0,hP0⟩:∃P,ofP (Pk.actX 0 (rn,rd) ([48],[49]))=P:=⟨_,rfl⟩;have CO0:Hid (∀V,G V→Calls Tryz.prog 15 #[.agg #[.string ⟨#[97,49]⟩,.int .i64 0,.string ⟨#[120]⟩,.string ⟨#[]⟩,.string ⟨rn.toArray⟩,.string ⟨rd.toArray⟩,.string ⟨#[48]⟩,.string ⟨#[49]⟩,.int .i64 0,.int .i64 0,.int .i64 0]] V (GivePk V P0)):=zh (fun V g=>by rw[←hP0];exact HB.out.of (Pk.actX 0 (rn,rd) ([48],[49])) V g);rw[hP0]at v0 hs0 n0;clear hP0;obtain⟨ps0,⟨qn0,qd0⟩⟩:=P0;obtain⟨x0,rfl⟩:∃x,ps0=[x]:=List.length_eq_one_iff.1 n0;clear n0;obtain⟨P1,hP1⟩:∃P,ofP (Pk.actX 1 (rn,rd) ([48],[49]))=P:=⟨_,rfl⟩;have CO1:Hid (∀V,G V→Calls Tryz.prog 15 #[.agg #[.string ⟨#[97,49]⟩,.int .i64 1,.string ⟨#[120]⟩,.string ⟨#[]⟩,.string ⟨rn.toArray⟩,.string ⟨rd.toArray⟩,.string ⟨#[48]⟩,.string ⟨#[49]⟩,.int .i64 0,.int .i64 0,.int .i64 0]] V (GivePk V P1)):=zh (fun V g=>by rw[←hP1];exact HB.out.of (Pk.actX 1 (rn,rd) ([48],[49])) V g)
 rw[hP1]at v1 hs1 n1;clear hP1;obtain⟨ps1,⟨qn1,qd1⟩⟩:=P1;obtain⟨x1,rfl⟩:∃x,ps1=[x]:=List.length_eq_one_iff.1 n1;clear n1;obtain⟨P2,hP2⟩:∃P,ofP (Pk.actX 2 ([48],[49]) (rn,rd))=P:=⟨_,rfl⟩;have CO2:Hid (∀V,G V→Calls Tryz.prog 15 #[.agg #[.string ⟨#[97,49]⟩,.int .i64 2,.string ⟨#[120]⟩,.string ⟨#[]⟩,.string ⟨#[48]⟩,.string ⟨#[49]⟩,.string ⟨rn.toArray⟩,.string ⟨rd.toArray⟩,.int .i64 0,.int .i64 0,.int .i64 0]] V (GivePk V P2)):=zh (fun V g=>by rw[←hP2];exact HB.out.of (Pk.actX 2 ([48],[49]) (rn,rd)) V g);rw[hP2]at v2 hs2 n2;clear hP2;obtain⟨ps2,⟨qn2,qd2⟩⟩:=P2;obtain⟨x2,rfl⟩:∃x,ps2=[x]:=List.length_eq_one_iff.1 n2;clear n2;obtain⟨⟨un0,ud0⟩,hu0⟩:∃u:Key,mulR (rn,rd) (pn,pd)=u:=⟨_,rfl⟩;rw[hu0]at v0;obtain⟨⟨un1,ud1⟩,hu1⟩:∃u:Key,addR (mulR (rn,rd) (pn,pd)) (pn,pd)=u:=⟨_,rfl⟩;rw[hu1]at v1;rw[hu0]at hu1;obtain⟨⟨un2,ud2⟩,hu2⟩:∃u:Key,addR (pn,pd) (rn,rd)=u:=⟨_,rfl⟩;rw[hu2]at v2;have HU0:=zh hu0;have HU1:=zh hu1;have HU2:=zh hu2;have HPM:=zh hpm;have HRM:=zh hrm
 clear hu0 hu1 hu2 hn;have HF:Hid (SzFx 100 [(([120],0),(pn,pd))]):=zh (fun y hy=>by rw[List.mem_singleton.1 hy];exact⟨by show ([120]:List UInt8).length≤_;decide,by show pn.length≤_;omega,by show pd.length≤_;omega⟩);have HS0:=zh hs0;have HV0:=zh v0
 clear hs0 v0;have CV0:Hid (∀ (p q:Option Addr) (c:Nat) (V:World),1≤c→Pts V p [x0]→Fxs V q [(([120],0),(pn,pd))]→G V→Calls Tryz.prog 12 #[.agg #[.slice p 1 c,.string ⟨qn0.toArray⟩,.string ⟨qd0.toArray⟩],.slice q 1 1,.int .i64 0] V (GiveW V (.tuple #[.agg #[.string ⟨un0.toArray⟩,.string ⟨ud0.toArray⟩],.bool true]))):=zh (fun p q c V hc h h2 g=>by
  have k:=HB.out.value p q c 1 ⟨[x0],(qn0,qd0)⟩ [(([120],0),(pn,pd))] 0 100 V hc (by simp) (by simp) (by simp) HS0.out HF.out h h2 g;rw[HV0.out]at k;exact k)
 have HS1:=zh hs1;have HV1:=zh v1
 clear hs1 v1;have CV1:Hid (∀ (p q:Option Addr) (c:Nat) (V:World),1≤c→Pts V p [x1]→Fxs V q [(([120],0),(pn,pd))]→G V→Calls Tryz.prog 12 #[.agg #[.slice p 1 c,.string ⟨qn1.toArray⟩,.string ⟨qd1.toArray⟩],.slice q 1 1,.int .i64 0] V (GiveW V (.tuple #[.agg #[.string ⟨un1.toArray⟩,.string ⟨ud1.toArray⟩],.bool true]))):=zh (fun p q c V hc h h2 g=>by
  have k:=HB.out.value p q c 1 ⟨[x1],(qn1,qd1)⟩ [(([120],0),(pn,pd))] 0 100 V hc (by simp) (by simp) (by simp) HS1.out HF.out h h2 g;rw[HV1.out]at k;exact k)
 have HS2:=zh hs2;have HV2:=zh v2
 clear hs2 v2;have CV2:Hid (∀ (p q:Option Addr) (c:Nat) (V:World),1≤c→Pts V p [x2]→Fxs V q [(([120],0),(pn,pd))]→G V→Calls Tryz.prog 12 #[.agg #[.slice p 1 c,.string ⟨qn2.toArray⟩,.string ⟨qd2.toArray⟩],.slice q 1 1,.int .i64 0] V (GiveW V (.tuple #[.agg #[.string ⟨un2.toArray⟩,.string ⟨ud2.toArray⟩],.bool true]))):=zh (fun p q c V hc h h2 g=>by
  have k:=HB.out.value p q c 1 ⟨[x2],(qn2,qd2)⟩ [(([120],0),(pn,pd))] 0 100 V hc (by simp) (by simp) (by simp) HS2.out HF.out h h2 g;rw[HV2.out]at k;exact k)
 have hlen:∀n d:List UInt8,n.length≤20→d.length≤20→(⟨n.toArray⟩:ByteArray).size≤20000∧(⟨d.toArray⟩:ByteArray).size≤20000:=fun n d h1 h2=>⟨by rw[size_of];omega,by rw[size_of];omega⟩;have hr:=hlen rn rd (by omega) (by omega);have hp:=hlen pn pd (by omega) (by omega);have hu:=Pk.wth_good (K:=20) hrm hpm (by show rn.length≤20;omega) (by show rd.length≤20;omega) (by show pn.length≤20;omega) (by show pd.length≤20;omega) (by decide);rw[HU0.out]at hu;have hu1:un0.length≤42:=hu.2.1;have hu2:ud0.length≤42:=hu.2.2;have CE0:Hid (∀V,Calls Tryz.prog 26 #[.agg #[.string ⟨rn.toArray⟩,.string ⟨rd.toArray⟩],.agg #[.string ⟨pn.toArray⟩,.string ⟨pd.toArray⟩]] V (GiveW V (.agg #[.string ⟨un0.toArray⟩,.string ⟨ud0.toArray⟩]))):=zh (fun V=>by
  have k:=rqmul_any ⟨rn.toArray⟩ ⟨rd.toArray⟩ ⟨pn.toArray⟩ ⟨pd.toArray⟩ V hr.1 hr.2 hp.1 hp.2;rw[show mulR ((⟨rn.toArray⟩:ByteArray).data.toList,(⟨rd.toArray⟩:ByteArray).data.toList) ((⟨pn.toArray⟩:ByteArray).data.toList,(⟨pd.toArray⟩:ByteArray).data.toList)=(un0,ud0) from HU0.out]at k;exact k)
 have CE1:Hid (∀V,Calls Tryz.prog 22 #[.agg #[.string ⟨un0.toArray⟩,.string ⟨ud0.toArray⟩],.agg #[.string ⟨pn.toArray⟩,.string ⟨pd.toArray⟩]] V (GiveW V (.agg #[.string ⟨un1.toArray⟩,.string ⟨ud1.toArray⟩]))):=zh (fun V=>by
  have k:=rqadd_any ⟨un0.toArray⟩ ⟨ud0.toArray⟩ ⟨pn.toArray⟩ ⟨pd.toArray⟩ V (by rw[size_of];omega) (by rw[size_of];omega) hp.1 hp.2;rw[show addR ((⟨un0.toArray⟩:ByteArray).data.toList,(⟨ud0.toArray⟩:ByteArray).data.toList) ((⟨pn.toArray⟩:ByteArray).data.toList,(⟨pd.toArray⟩:ByteArray).data.toList)=(un1,ud1) from HU1.out]at k;exact k)
 have CE2:Hid (∀V,Calls Tryz.prog 22 #[.agg #[.string ⟨pn.toArray⟩,.string ⟨pd.toArray⟩],.agg #[.string ⟨rn.toArray⟩,.string ⟨rd.toArray⟩]] V (GiveW V (.agg #[.string ⟨un2.toArray⟩,.string ⟨ud2.toArray⟩]))):=zh (fun V=>by
  have k:=rqadd_any ⟨pn.toArray⟩ ⟨pd.toArray⟩ ⟨rn.toArray⟩ ⟨rd.toArray⟩ V hp.1 hp.2 hr.1 hr.2;rw[show addR ((⟨pn.toArray⟩:ByteArray).data.toList,(⟨pd.toArray⟩:ByteArray).data.toList) ((⟨rn.toArray⟩:ByteArray).data.toList,(⟨rd.toArray⟩:ByteArray).data.toList)=(un2,ud2) from HU2.out]at k;exact k)
 clear hlen hr hp hu hu1 hu2 hpm hrm hs hsg l0 l1 l2 l3 li0 li1 li2 li3 CPM CRM CRS FX HF
 go_cut [5] from 57 to 59 (fun t0' V'=>∃V Y,V=V'∧t0'=.pointer (some ⟨Y,0,none⟩)∧Blk Y [.string ⟨#[97,49]⟩,.int .i64 0,.string ⟨#[120]⟩,.string ⟨#[]⟩,.string ⟨rn.toArray⟩,.string ⟨rd.toArray⟩,.string ⟨#[48]⟩,.string ⟨#[49]⟩,.int .i64 0,.int .i64 0,.int .i64 0] V∧Below U2.heap.size U2 V)
 case first =>
  refine wp_region_noPanic ?_;refine wp_region_held_drew (S:=fun w'=>Below U2.heap.size U2 w') (by kernel_rfl) (b6.drew) (fun hH0=>?_);refine wpAnyH_take (i:=0) (v:=?_) rfl (by kernel_rfl) (by kernel_rfl) (by kernel_rfl) (fun _ _ _ h=>h) (Or.inl ⟨by rfl,?_⟩) (by assumption) ?_;rotate_left 1
  ·(intro w hSw;(try dsimp only at hSw);go_simp<;>(with_reducible rfl))
  try simp only[Act.put,qA,qB,qC,qD,qE,qF]
  refine wpAnyH_ready (rs:=[1,3]) (by kernel_rfl) (by simp) ?_;refine AllReadyH.cons rfl (fun K hK=>?_) (AllReadyH.cons rfl (fun K hK=>?_) AllReadyH.nil)
  ·go_simp
   refine(pk_o (n:=0) (l:=[48]) (by decide) (by decide) (by decide +kernel) _).mono ?_;rintro e x1 ⟨rfl,hb⟩;have hw:Below U2.heap.size U2 x1:=Below.more hH0 hb
   (try go_wp2_with fail)
   refine hK.out _ _ hw (fun hH1=>?_);clear hK hH0 hb hw
   try simp only[Act.put,qA,qB,qC,qD,qE,qF]
   refine wpAnyH_take (i:=2) (v:=?_) rfl (by kernel_rfl) (by kernel_rfl) (by kernel_rfl) (fun _ _ _ h=>h) (Or.inl ⟨by rfl,?_⟩) (by assumption) ?_;rotate_left 1
   ·(intro w hSw;(try dsimp only at hSw);go_simp<;>(with_reducible rfl))
   try simp only[Act.put,qA,qB,qC,qD,qE,qF]
   refine wpAnyH_ready (rs:=[3]) (by kernel_rfl) (by simp) ?_;refine AllReadyH.cons rfl (fun K hK=>?_) AllReadyH.nil
   go_simp
   have hY:=blk_new x1 #[.string ⟨#[]⟩,.int .i64 0,.string ⟨#[]⟩,.string ⟨#[]⟩,.string ⟨#[]⟩,.string ⟨#[]⟩,.string ⟨#[]⟩,.string ⟨#[]⟩,.int .i64 0,.int .i64 0,.int .i64 0] 25;have bb:Below x1.heap.size x1 (x1.alloc (.cells #[.string ⟨#[]⟩,.int .i64 0,.string ⟨#[]⟩,.string ⟨#[]⟩,.string ⟨#[]⟩,.string ⟨#[]⟩,.string ⟨#[]⟩,.string ⟨#[]⟩,.int .i64 0,.int .i64 0,.int .i64 0] 25)):=Below.alloc (Below.refl _ _) (Nat.le_refl _) _;have hge:U2.heap.size≤x1.heap.size:=hH1.size;obtain⟨Y,hYe⟩:∃Y,x1.heap.size=Y:=⟨_,rfl⟩;obtain⟨x2,hU⟩:∃Z9,x1.alloc (.cells #[.string ⟨#[]⟩,.int .i64 0,.string ⟨#[]⟩,.string ⟨#[]⟩,.string ⟨#[]⟩,.string ⟨#[]⟩,.string ⟨#[]⟩,.string ⟨#[]⟩,.int .i64 0,.int .i64 0,.int .i64 0] 25)=Z9:=⟨_,rfl⟩;rw[hU]at hY bb ⊢;have hw:Below U2.heap.size U2 x2:=Below.more hH1 bb;replace hge:U2.heap.size≤Y:=hYe▸hge;rw[hYe]at hY
   (try rw[hYe])
   clear hU hYe bb;refine hK.out _ _ hw (fun hH2=>?_);clear hK hH1 hw
   try simp only[Act.put,qA,qB,qC,qD,qE,qF]
   have y0:=hY.c 0 _ rfl;have z0:=hY.f 0 (by simp)
   have y1:=hY.c 1 _ rfl;have z1:=hY.f 1 (by simp)
   have y2:=hY.c 2 _ rfl;have z2:=hY.f 2 (by simp)
   have y3:=hY.c 3 _ rfl;have z3:=hY.f 3 (by simp)
   have y4:=hY.c 4 _ rfl;have z4:=hY.f 4 (by simp)
   have y5:=hY.c 5 _ rfl;have z5:=hY.f 5 (by simp)
   have y6:=hY.c 6 _ rfl;have z6:=hY.f 6 (by simp)
   have y7:=hY.c 7 _ rfl;have z7:=hY.f 7 (by simp)
   have y8:=hY.c 8 _ rfl;have z8:=hY.f 8 (by simp)
   have y9:=hY.c 9 _ rfl;have z9:=hY.f 9 (by simp)
   have y10:=hY.c 10 _ rfl;have z10:=hY.f 10 (by simp)
   refine wpAnyH_ready (rs:=[4]) (by kernel_rfl) (by simp) ?_;refine AllReadyH.cons rfl (fun K hK=>?_) AllReadyH.nil
   go_simp
   have hY2:=(((((((((((hY.set 0 (by simp) (.string ⟨#[97,49]⟩)).set 1 (by simp) (.int .i64 0)).set 2 (by simp) (.string ⟨#[120]⟩)).set 3 (by simp) (.string ⟨#[]⟩)).set 4 (by simp) (.string ⟨rn.toArray⟩)).set 5 (by simp) (.string ⟨rd.toArray⟩)).set 6 (by simp) (.string ⟨#[48]⟩)).set 7 (by simp) (.string ⟨#[49]⟩)).set 8 (by simp) (.int .i64 0)).set 9 (by simp) (.int .i64 0)).set 10 (by simp) (.int .i64 0));refine hK.out _ _ (Below.setCell (Below.setCell (Below.setCell (Below.setCell (Below.setCell (Below.setCell (Below.setCell (Below.setCell (Below.setCell (Below.setCell (Below.setCell (hH2) (hge) _) (hge) _) (hge) _) (hge) _) (hge) _) (hge) _) (hge) _) (hge) _) (hge) _) (hge) _) (hge) _) (fun hH3=>?_);clear hK hY y0 z0 y1 z1 y2 z2 y3 z3 y4 z4 y5 z5 y6 z6 y7 z7 y8 z8 y9 z9 y10 z10
   try simp only[Act.put,qA,qB,qC,qD,qE,qF]
   refine wpAnyH_done (by kernel_rfl) ?_ _;refine NoPanic.normal ?_;go_wp2_with fail
   go_meet
   exact⟨_,Y,rfl,rfl,hY2,hH3⟩
  ·go_simp
   have hY:=(blk_new w6 #[.string ⟨#[]⟩,.int .i64 0,.string ⟨#[]⟩,.string ⟨#[]⟩,.string ⟨#[]⟩,.string ⟨#[]⟩,.string ⟨#[]⟩,.string ⟨#[]⟩,.int .i64 0,.int .i64 0,.int .i64 0] 25).drew;have bb:Below w6.heap.size w6 ((w6.alloc (.cells #[.string ⟨#[]⟩,.int .i64 0,.string ⟨#[]⟩,.string ⟨#[]⟩,.string ⟨#[]⟩,.string ⟨#[]⟩,.string ⟨#[]⟩,.string ⟨#[]⟩,.int .i64 0,.int .i64 0,.int .i64 0] 25)).drew):=(Below.alloc (Below.refl _ _) (Nat.le_refl _) _).drew;have hge:U2.heap.size≤w6.heap.size:=b6.size;obtain⟨Y,hYe⟩:∃Y,w6.heap.size=Y:=⟨_,rfl⟩;obtain⟨x1,hU⟩:∃Z9,(w6.alloc (.cells #[.string ⟨#[]⟩,.int .i64 0,.string ⟨#[]⟩,.string ⟨#[]⟩,.string ⟨#[]⟩,.string ⟨#[]⟩,.string ⟨#[]⟩,.string ⟨#[]⟩,.int .i64 0,.int .i64 0,.int .i64 0] 25)).drew=Z9:=⟨_,rfl⟩;rw[hU]at hY bb ⊢;have hw:Below U2.heap.size U2 x1:=Below.more b6 bb;replace hge:U2.heap.size≤Y:=hYe▸hge;rw[hYe]at hY
   (try rw[hYe])
   clear hU hYe bb;refine hK.out _ _ hw (fun hH1=>?_);clear hK hH0 hw
   try simp only[Act.put,qA,qB,qC,qD,qE,qF]
   refine wpAnyH_ready (rs:=[1]) (by kernel_rfl) (by simp) ?_;refine AllReadyH.cons rfl (fun K hK=>?_) AllReadyH.nil
   go_simp
   refine(pk_o (n:=0) (l:=[48]) (by decide) (by decide) (by decide +kernel) _).mono ?_;rintro e x2 ⟨rfl,hb⟩;have hw:Below U2.heap.size U2 x2:=Below.more hH1 hb;replace hY:=hY.below hb
   (try go_wp2_with fail)
   refine hK.out _ _ hw (fun hH2=>?_);clear hK hH1 hb hw
   try simp only[Act.put,qA,qB,qC,qD,qE,qF]
   refine wpAnyH_take (i:=2) (v:=?_) rfl (by kernel_rfl) (by kernel_rfl) (by kernel_rfl) (fun _ _ _ h=>h) (Or.inl ⟨by rfl,?_⟩) (by assumption) ?_;rotate_left 1
   ·(intro w hSw;(try dsimp only at hSw);go_simp<;>(with_reducible rfl))
   try simp only[Act.put,qA,qB,qC,qD,qE,qF]
   have y0:=hY.c 0 _ rfl;have z0:=hY.f 0 (by simp)
   have y1:=hY.c 1 _ rfl;have z1:=hY.f 1 (by simp)
   have y2:=hY.c 2 _ rfl;have z2:=hY.f 2 (by simp)
   have y3:=hY.c 3 _ rfl;have z3:=hY.f 3 (by simp)
   have y4:=hY.c 4 _ rfl;have z4:=hY.f 4 (by simp)
   have y5:=hY.c 5 _ rfl;have z5:=hY.f 5 (by simp)
   have y6:=hY.c 6 _ rfl;have z6:=hY.f 6 (by simp)
   have y7:=hY.c 7 _ rfl;have z7:=hY.f 7 (by simp)
   have y8:=hY.c 8 _ rfl;have z8:=hY.f 8 (by simp)
   have y9:=hY.c 9 _ rfl;have z9:=hY.f 9 (by simp)
   have y10:=hY.c 10 _ rfl;have z10:=hY.f 10 (by simp)
   refine wpAnyH_ready (rs:=[4]) (by kernel_rfl) (by simp) ?_;refine AllReadyH.cons rfl (fun K hK=>?_) AllReadyH.nil
   go_simp
   have hY2:=(((((((((((hY.set 0 (by simp) (.string ⟨#[97,49]⟩)).set 1 (by simp) (.int .i64 0)).set 2 (by simp) (.string ⟨#[120]⟩)).set 3 (by simp) (.string ⟨#[]⟩)).set 4 (by simp) (.string ⟨rn.toArray⟩)).set 5 (by simp) (.string ⟨rd.toArray⟩)).set 6 (by simp) (.string ⟨#[48]⟩)).set 7 (by simp) (.string ⟨#[49]⟩)).set 8 (by simp) (.int .i64 0)).set 9 (by simp) (.int .i64 0)).set 10 (by simp) (.int .i64 0));refine hK.out _ _ (Below.setCell (Below.setCell (Below.setCell (Below.setCell (Below.setCell (Below.setCell (Below.setCell (Below.setCell (Below.setCell (Below.setCell (Below.setCell (hH2) (hge) _) (hge) _) (hge) _) (hge) _) (hge) _) (hge) _) (hge) _) (hge) _) (hge) _) (hge) _) (hge) _) (fun hH3=>?_);clear hK hY y0 z0 y1 z1 y2 z2 y3 z3 y4 z4 y5 z5 y6 z6 y7 z7 y8 z8 y9 z9 y10 z10
   try simp only[Act.put,qA,qB,qC,qD,qE,qF]
   refine wpAnyH_done (by kernel_rfl) ?_ _;refine NoPanic.normal ?_;go_wp2_with fail
   go_meet
   exact⟨_,Y,rfl,rfl,hY2,hH3⟩
 case rest =>
 obtain⟨U7,Ya,hVe,rfl,hYa,bU⟩:=hcut;subst hVe;replace rr0:=fun v (h:Below U7.heap.size U7 v)=>rr0 v (Below.more bU h);replace rr1:=fun v (h:Below U7.heap.size U7 v)=>rr1 v (Below.more bU h);replace rq0:=fun v (h:Below U7.heap.size U7 v)=>rq0 v (Below.more bU h);replace rq1:=fun v (h:Below U7.heap.size U7 v)=>rq1 v (Below.more bU h);replace BW:=Below.more BW bU;replace HG:=zh (HB.out.below HG.out bU);have ra0:∀v,Below U7.heap.size U7 v→_:=fun v hv=>(hYa.below hv).c 0 _ rfl;have ra1:∀v,Below U7.heap.size U7 v→_:=fun v hv=>(hYa.below hv).c 1 _ rfl;have ra2:∀v,Below U7.heap.size U7 v→_:=fun v hv=>(hYa.below hv).c 2 _ rfl;have ra3:∀v,Below U7.heap.size U7 v→_:=fun v hv=>(hYa.below hv).c 3 _ rfl;have ra4:∀v,Below U7.heap.size U7 v→_:=fun v hv=>(hYa.below hv).c 4 _ rfl;have ra5:∀v,Below U7.heap.size U7 v→_:=fun v hv=>(hYa.below hv).c 5 _ rfl;have ra6:∀v,Below U7.heap.size U7 v→_:=fun v hv=>(hYa.below hv).c 6 _ rfl;have ra7:∀v,Below U7.heap.size U7 v→_:=fun v hv=>(hYa.below hv).c 7 _ rfl;have ra8:∀v,Below U7.heap.size U7 v→_:=fun v hv=>(hYa.below hv).c 8 _ rfl;have ra9:∀v,Below U7.heap.size U7 v→_:=fun v hv=>(hYa.below hv).c 9 _ rfl;have ra10:∀v,Below U7.heap.size U7 v→_:=fun v hv=>(hYa.below hv).c 10 _ rfl
 clear hYa;clear bU;have b7:=Below.refl U7.heap.size U7;have ba:=fun x=>Below.alloc b7 (Below.size b7) x;go_wp2_with fail;clear ba;have hrow:=rowsLitK (enc:=encFx) (k:=4) (fun _=>rfl) U7 [(([120],0),(pn,pd))] #[.string ⟨#[120]⟩,.int .i64 0,.string ⟨pn.toArray⟩,.string ⟨pd.toArray⟩] 47 rfl;have bn:Below U7.heap.size U7 (U7.alloc (.cells #[.string ⟨#[120]⟩,.int .i64 0,.string ⟨pn.toArray⟩,.string ⟨pd.toArray⟩] 47)):=Below.alloc (Below.refl _ _) (Nat.le_refl _) _;obtain⟨U8,hU⟩:∃U,U7.alloc (.cells #[.string ⟨#[120]⟩,.int .i64 0,.string ⟨pn.toArray⟩,.string ⟨pd.toArray⟩] 47)=U:=⟨_,rfl⟩;rw[hU]at hrow bn ⊢;have s8:U7.heap.size+1=U8.heap.size:=by rw[←hU];simp
 have bU:=Below.more b7 bn;clear bn;replace rr0:=fun v (h:Below U8.heap.size U8 v)=>rr0 v (Below.more bU h);replace rr1:=fun v (h:Below U8.heap.size U8 v)=>rr1 v (Below.more bU h);replace rq0:=fun v (h:Below U8.heap.size U8 v)=>rq0 v (Below.more bU h);replace rq1:=fun v (h:Below U8.heap.size U8 v)=>rq1 v (Below.more bU h);replace ra0:=fun v (h:Below U8.heap.size U8 v)=>ra0 v (Below.more bU h);replace ra1:=fun v (h:Below U8.heap.size U8 v)=>ra1 v (Below.more bU h);replace ra2:=fun v (h:Below U8.heap.size U8 v)=>ra2 v (Below.more bU h);replace ra3:=fun v (h:Below U8.heap.size U8 v)=>ra3 v (Below.more bU h);replace ra4:=fun v (h:Below U8.heap.size U8 v)=>ra4 v (Below.more bU h);replace ra5:=fun v (h:Below U8.heap.size U8 v)=>ra5 v (Below.more bU h);replace ra6:=fun v (h:Below U8.heap.size U8 v)=>ra6 v (Below.more bU h);replace ra7:=fun v (h:Below U8.heap.size U8 v)=>ra7 v (Below.more bU h);replace ra8:=fun v (h:Below U8.heap.size U8 v)=>ra8 v (Below.more bU h);replace ra9:=fun v (h:Below U8.heap.size U8 v)=>ra9 v (Below.more bU h);replace ra10:=fun v (h:Below U8.heap.size U8 v)=>ra10 v (Below.more bU h);replace BW:=Below.more BW bU;replace HG:=zh (HB.out.below HG.out bU);have Lf:=zh hrow;clear hrow hU;clear bU;have b8:=Below.refl U8.heap.size U8;obtain⟨U9,hU,bU,s9,kk⟩:=layN b8 #[.string ⟨#[97,49]⟩,.int .i64 1,.string ⟨#[120]⟩,.string ⟨#[]⟩,.string ⟨rn.toArray⟩,.string ⟨rd.toArray⟩,.string ⟨#[48]⟩,.string ⟨#[49]⟩,.int .i64 0,.int .i64 0,.int .i64 0] 25;rw[hU];clear hU;rw[←s8]at kk
 have rb0:=kk 0 _ rfl;have rb1:=kk 1 _ rfl;have rb2:=kk 2 _ rfl;have rb3:=kk 3 _ rfl;have rb4:=kk 4 _ rfl;have rb5:=kk 5 _ rfl;have rb6:=kk 6 _ rfl;have rb7:=kk 7 _ rfl;have rb8:=kk 8 _ rfl;have rb9:=kk 9 _ rfl;have rb10:=kk 10 _ rfl
 clear kk s9;replace rr0:=fun v (h:Below U9.heap.size U9 v)=>rr0 v (Below.more bU h);replace rr1:=fun v (h:Below U9.heap.size U9 v)=>rr1 v (Below.more bU h);replace rq0:=fun v (h:Below U9.heap.size U9 v)=>rq0 v (Below.more bU h);replace rq1:=fun v (h:Below U9.heap.size U9 v)=>rq1 v (Below.more bU h);replace ra0:=fun v (h:Below U9.heap.size U9 v)=>ra0 v (Below.more bU h);replace ra1:=fun v (h:Below U9.heap.size U9 v)=>ra1 v (Below.more bU h);replace ra2:=fun v (h:Below U9.heap.size U9 v)=>ra2 v (Below.more bU h);replace ra3:=fun v (h:Below U9.heap.size U9 v)=>ra3 v (Below.more bU h);replace ra4:=fun v (h:Below U9.heap.size U9 v)=>ra4 v (Below.more bU h);replace ra5:=fun v (h:Below U9.heap.size U9 v)=>ra5 v (Below.more bU h);replace ra6:=fun v (h:Below U9.heap.size U9 v)=>ra6 v (Below.more bU h);replace ra7:=fun v (h:Below U9.heap.size U9 v)=>ra7 v (Below.more bU h);replace ra8:=fun v (h:Below U9.heap.size U9 v)=>ra8 v (Below.more bU h);replace ra9:=fun v (h:Below U9.heap.size U9 v)=>ra9 v (Below.more bU h);replace ra10:=fun v (h:Below U9.heap.size U9 v)=>ra10 v (Below.more bU h);replace Lf:=zh (Lf.out.below bU);replace BW:=Below.more BW bU;replace HG:=zh (HB.out.below HG.out bU);clear bU;have b9:=Below.refl U9.heap.size U9;clear s8
 go_cut [8] from 65 to 67 (fun t0' V'=>∃V Y,V=V'∧t0'=.pointer (some ⟨Y,0,none⟩)∧Blk Y [.string ⟨#[97,49]⟩,.int .i64 2,.string ⟨#[120]⟩,.string ⟨#[]⟩,.string ⟨#[48]⟩,.string ⟨#[49]⟩,.string ⟨rn.toArray⟩,.string ⟨rd.toArray⟩,.int .i64 0,.int .i64 0,.int .i64 0] V∧Below U9.heap.size U9 V)
 case first =>
  refine wp_region_noPanic ?_;refine wp_region_held_drew (S:=fun w'=>Below U9.heap.size U9 w') (by kernel_rfl) (b9.drew) (fun hH0=>?_);refine wpAnyH_take (i:=1) (v:=?_) rfl (by kernel_rfl) (by kernel_rfl) (by kernel_rfl) (fun _ _ _ h=>h) (Or.inl ⟨by rfl,?_⟩) (by assumption) ?_;rotate_left 1
  ·(intro w hSw;(try dsimp only at hSw);go_simp<;>(with_reducible rfl))
  try simp only[Act.put,qA,qB,qC,qD,qE,qF]
  refine wpAnyH_ready (rs:=[0,3]) (by kernel_rfl) (by simp) ?_;refine AllReadyH.cons rfl (fun K hK=>?_) (AllReadyH.cons rfl (fun K hK=>?_) AllReadyH.nil)
  ·go_simp
   refine(pk_o (n:=0) (l:=[48]) (by decide) (by decide) (by decide +kernel) _).mono ?_;rintro e x1 ⟨rfl,hb⟩;have hw:Below U9.heap.size U9 x1:=Below.more hH0 hb
   (try go_wp2_with fail)
   refine hK.out _ _ hw (fun hH1=>?_);clear hK hH0 hb hw
   try simp only[Act.put,qA,qB,qC,qD,qE,qF]
   refine wpAnyH_take (i:=2) (v:=?_) rfl (by kernel_rfl) (by kernel_rfl) (by kernel_rfl) (fun _ _ _ h=>h) (Or.inl ⟨by rfl,?_⟩) (by assumption) ?_;rotate_left 1
   ·(intro w hSw;(try dsimp only at hSw);go_simp<;>(with_reducible rfl))
   try simp only[Act.put,qA,qB,qC,qD,qE,qF]
   refine wpAnyH_ready (rs:=[3]) (by kernel_rfl) (by simp) ?_;refine AllReadyH.cons rfl (fun K hK=>?_) AllReadyH.nil
   go_simp
   have hY:=blk_new x1 #[.string ⟨#[]⟩,.int .i64 0,.string ⟨#[]⟩,.string ⟨#[]⟩,.string ⟨#[]⟩,.string ⟨#[]⟩,.string ⟨#[]⟩,.string ⟨#[]⟩,.int .i64 0,.int .i64 0,.int .i64 0] 25;have bb:Below x1.heap.size x1 (x1.alloc (.cells #[.string ⟨#[]⟩,.int .i64 0,.string ⟨#[]⟩,.string ⟨#[]⟩,.string ⟨#[]⟩,.string ⟨#[]⟩,.string ⟨#[]⟩,.string ⟨#[]⟩,.int .i64 0,.int .i64 0,.int .i64 0] 25)):=Below.alloc (Below.refl _ _) (Nat.le_refl _) _;have hge:U9.heap.size≤x1.heap.size:=hH1.size;obtain⟨Y,hYe⟩:∃Y,x1.heap.size=Y:=⟨_,rfl⟩;obtain⟨x2,hU⟩:∃Z9,x1.alloc (.cells #[.string ⟨#[]⟩,.int .i64 0,.string ⟨#[]⟩,.string ⟨#[]⟩,.string ⟨#[]⟩,.string ⟨#[]⟩,.string ⟨#[]⟩,.string ⟨#[]⟩,.int .i64 0,.int .i64 0,.int .i64 0] 25)=Z9:=⟨_,rfl⟩;rw[hU]at hY bb ⊢;have hw:Below U9.heap.size U9 x2:=Below.more hH1 bb;replace hge:U9.heap.size≤Y:=hYe▸hge;rw[hYe]at hY
   (try rw[hYe])
   clear hU hYe bb;refine hK.out _ _ hw (fun hH2=>?_);clear hK hH1 hw
   try simp only[Act.put,qA,qB,qC,qD,qE,qF]
   have y0:=hY.c 0 _ rfl;have z0:=hY.f 0 (by simp)
   have y1:=hY.c 1 _ rfl;have z1:=hY.f 1 (by simp)
   have y2:=hY.c 2 _ rfl;have z2:=hY.f 2 (by simp)
   have y3:=hY.c 3 _ rfl;have z3:=hY.f 3 (by simp)
   have y4:=hY.c 4 _ rfl;have z4:=hY.f 4 (by simp)
   have y5:=hY.c 5 _ rfl;have z5:=hY.f 5 (by simp)
   have y6:=hY.c 6 _ rfl;have z6:=hY.f 6 (by simp)
   have y7:=hY.c 7 _ rfl;have z7:=hY.f 7 (by simp)
   have y8:=hY.c 8 _ rfl;have z8:=hY.f 8 (by simp)
   have y9:=hY.c 9 _ rfl;have z9:=hY.f 9 (by simp)
   have y10:=hY.c 10 _ rfl;have z10:=hY.f 10 (by simp)
   refine wpAnyH_ready (rs:=[4]) (by kernel_rfl) (by simp) ?_;refine AllReadyH.cons rfl (fun K hK=>?_) AllReadyH.nil
   go_simp
   have hY2:=(((((((((((hY.set 0 (by simp) (.string ⟨#[97,49]⟩)).set 1 (by simp) (.int .i64 2)).set 2 (by simp) (.string ⟨#[120]⟩)).set 3 (by simp) (.string ⟨#[]⟩)).set 4 (by simp) (.string ⟨#[48]⟩)).set 5 (by simp) (.string ⟨#[49]⟩)).set 6 (by simp) (.string ⟨rn.toArray⟩)).set 7 (by simp) (.string ⟨rd.toArray⟩)).set 8 (by simp) (.int .i64 0)).set 9 (by simp) (.int .i64 0)).set 10 (by simp) (.int .i64 0));refine hK.out _ _ (Below.setCell (Below.setCell (Below.setCell (Below.setCell (Below.setCell (Below.setCell (Below.setCell (Below.setCell (Below.setCell (Below.setCell (Below.setCell (hH2) (hge) _) (hge) _) (hge) _) (hge) _) (hge) _) (hge) _) (hge) _) (hge) _) (hge) _) (hge) _) (hge) _) (fun hH3=>?_);clear hK hY y0 z0 y1 z1 y2 z2 y3 z3 y4 z4 y5 z5 y6 z6 y7 z7 y8 z8 y9 z9 y10 z10
   try simp only[Act.put,qA,qB,qC,qD,qE,qF]
   refine wpAnyH_done (by kernel_rfl) ?_ _;refine NoPanic.normal ?_;go_wp2_with fail
   go_meet
   exact⟨_,Y,rfl,rfl,hY2,hH3⟩
  ·go_simp
   have hY:=(blk_new U9 #[.string ⟨#[]⟩,.int .i64 0,.string ⟨#[]⟩,.string ⟨#[]⟩,.string ⟨#[]⟩,.string ⟨#[]⟩,.string ⟨#[]⟩,.string ⟨#[]⟩,.int .i64 0,.int .i64 0,.int .i64 0] 25).drew;have bb:Below U9.heap.size U9 ((U9.alloc (.cells #[.string ⟨#[]⟩,.int .i64 0,.string ⟨#[]⟩,.string ⟨#[]⟩,.string ⟨#[]⟩,.string ⟨#[]⟩,.string ⟨#[]⟩,.string ⟨#[]⟩,.int .i64 0,.int .i64 0,.int .i64 0] 25)).drew):=(Below.alloc (Below.refl _ _) (Nat.le_refl _) _).drew;have hge:U9.heap.size≤U9.heap.size:=b9.size;obtain⟨Y,hYe⟩:∃Y,U9.heap.size=Y:=⟨_,rfl⟩;obtain⟨x1,hU⟩:∃Z9,(U9.alloc (.cells #[.string ⟨#[]⟩,.int .i64 0,.string ⟨#[]⟩,.string ⟨#[]⟩,.string ⟨#[]⟩,.string ⟨#[]⟩,.string ⟨#[]⟩,.string ⟨#[]⟩,.int .i64 0,.int .i64 0,.int .i64 0] 25)).drew=Z9:=⟨_,rfl⟩;rw[hU]at hY bb ⊢;have hw:Below U9.heap.size U9 x1:=Below.more b9 bb;replace hge:U9.heap.size≤Y:=hYe▸hge;rw[hYe]at hY
   (try rw[hYe])
   clear hU hYe bb;refine hK.out _ _ hw (fun hH1=>?_);clear hK hH0 hw
   try simp only[Act.put,qA,qB,qC,qD,qE,qF]
   refine wpAnyH_ready (rs:=[0]) (by kernel_rfl) (by simp) ?_;refine AllReadyH.cons rfl (fun K hK=>?_) AllReadyH.nil
   go_simp
   refine(pk_o (n:=0) (l:=[48]) (by decide) (by decide) (by decide +kernel) _).mono ?_;rintro e x2 ⟨rfl,hb⟩;have hw:Below U9.heap.size U9 x2:=Below.more hH1 hb;replace hY:=hY.below hb
   (try go_wp2_with fail)
   refine hK.out _ _ hw (fun hH2=>?_);clear hK hH1 hb hw
   try simp only[Act.put,qA,qB,qC,qD,qE,qF]
   refine wpAnyH_take (i:=2) (v:=?_) rfl (by kernel_rfl) (by kernel_rfl) (by kernel_rfl) (fun _ _ _ h=>h) (Or.inl ⟨by rfl,?_⟩) (by assumption) ?_;rotate_left 1
   ·(intro w hSw;(try dsimp only at hSw);go_simp<;>(with_reducible rfl))
   try simp only[Act.put,qA,qB,qC,qD,qE,qF]
   have y0:=hY.c 0 _ rfl;have z0:=hY.f 0 (by simp)
   have y1:=hY.c 1 _ rfl;have z1:=hY.f 1 (by simp)
   have y2:=hY.c 2 _ rfl;have z2:=hY.f 2 (by simp)
   have y3:=hY.c 3 _ rfl;have z3:=hY.f 3 (by simp)
   have y4:=hY.c 4 _ rfl;have z4:=hY.f 4 (by simp)
   have y5:=hY.c 5 _ rfl;have z5:=hY.f 5 (by simp)
   have y6:=hY.c 6 _ rfl;have z6:=hY.f 6 (by simp)
   have y7:=hY.c 7 _ rfl;have z7:=hY.f 7 (by simp)
   have y8:=hY.c 8 _ rfl;have z8:=hY.f 8 (by simp)
   have y9:=hY.c 9 _ rfl;have z9:=hY.f 9 (by simp)
   have y10:=hY.c 10 _ rfl;have z10:=hY.f 10 (by simp)
   refine wpAnyH_ready (rs:=[4]) (by kernel_rfl) (by simp) ?_;refine AllReadyH.cons rfl (fun K hK=>?_) AllReadyH.nil
   go_simp
   have hY2:=(((((((((((hY.set 0 (by simp) (.string ⟨#[97,49]⟩)).set 1 (by simp) (.int .i64 2)).set 2 (by simp) (.string ⟨#[120]⟩)).set 3 (by simp) (.string ⟨#[]⟩)).set 4 (by simp) (.string ⟨#[48]⟩)).set 5 (by simp) (.string ⟨#[49]⟩)).set 6 (by simp) (.string ⟨rn.toArray⟩)).set 7 (by simp) (.string ⟨rd.toArray⟩)).set 8 (by simp) (.int .i64 0)).set 9 (by simp) (.int .i64 0)).set 10 (by simp) (.int .i64 0));refine hK.out _ _ (Below.setCell (Below.setCell (Below.setCell (Below.setCell (Below.setCell (Below.setCell (Below.setCell (Below.setCell (Below.setCell (Below.setCell (Below.setCell (hH2) (hge) _) (hge) _) (hge) _) (hge) _) (hge) _) (hge) _) (hge) _) (hge) _) (hge) _) (hge) _) (hge) _) (fun hH3=>?_);clear hK hY y0 z0 y1 z1 y2 z2 y3 z3 y4 z4 y5 z5 y6 z6 y7 z7 y8 z8 y9 z9 y10 z10
   try simp only[Act.put,qA,qB,qC,qD,qE,qF]
   refine wpAnyH_done (by kernel_rfl) ?_ _;refine NoPanic.normal ?_;go_wp2_with fail
   go_meet
   exact⟨_,Y,rfl,rfl,hY2,hH3⟩
 case rest =>
 obtain⟨U10,Yc,hVe,rfl,hYc,bU⟩:=hcut;subst hVe;replace rr0:=fun v (h:Below U10.heap.size U10 v)=>rr0 v (Below.more bU h);replace rr1:=fun v (h:Below U10.heap.size U10 v)=>rr1 v (Below.more bU h);replace rq0:=fun v (h:Below U10.heap.size U10 v)=>rq0 v (Below.more bU h);replace rq1:=fun v (h:Below U10.heap.size U10 v)=>rq1 v (Below.more bU h);replace ra0:=fun v (h:Below U10.heap.size U10 v)=>ra0 v (Below.more bU h);replace ra1:=fun v (h:Below U10.heap.size U10 v)=>ra1 v (Below.more bU h);replace ra2:=fun v (h:Below U10.heap.size U10 v)=>ra2 v (Below.more bU h);replace ra3:=fun v (h:Below U10.heap.size U10 v)=>ra3 v (Below.more bU h);replace ra4:=fun v (h:Below U10.heap.size U10 v)=>ra4 v (Below.more bU h);replace ra5:=fun v (h:Below U10.heap.size U10 v)=>ra5 v (Below.more bU h);replace ra6:=fun v (h:Below U10.heap.size U10 v)=>ra6 v (Below.more bU h);replace ra7:=fun v (h:Below U10.heap.size U10 v)=>ra7 v (Below.more bU h);replace ra8:=fun v (h:Below U10.heap.size U10 v)=>ra8 v (Below.more bU h);replace ra9:=fun v (h:Below U10.heap.size U10 v)=>ra9 v (Below.more bU h);replace ra10:=fun v (h:Below U10.heap.size U10 v)=>ra10 v (Below.more bU h);replace rb0:=fun v (h:Below U10.heap.size U10 v)=>rb0 v (Below.more bU h);replace rb1:=fun v (h:Below U10.heap.size U10 v)=>rb1 v (Below.more bU h);replace rb2:=fun v (h:Below U10.heap.size U10 v)=>rb2 v (Below.more bU h);replace rb3:=fun v (h:Below U10.heap.size U10 v)=>rb3 v (Below.more bU h);replace rb4:=fun v (h:Below U10.heap.size U10 v)=>rb4 v (Below.more bU h)
 replace rb5:=fun v (h:Below U10.heap.size U10 v)=>rb5 v (Below.more bU h);replace rb6:=fun v (h:Below U10.heap.size U10 v)=>rb6 v (Below.more bU h);replace rb7:=fun v (h:Below U10.heap.size U10 v)=>rb7 v (Below.more bU h);replace rb8:=fun v (h:Below U10.heap.size U10 v)=>rb8 v (Below.more bU h);replace rb9:=fun v (h:Below U10.heap.size U10 v)=>rb9 v (Below.more bU h);replace rb10:=fun v (h:Below U10.heap.size U10 v)=>rb10 v (Below.more bU h);replace Lf:=zh (Lf.out.below bU);replace BW:=Below.more BW bU;replace HG:=zh (HB.out.below HG.out bU);have rc0:∀v,Below U10.heap.size U10 v→_:=fun v hv=>(hYc.below hv).c 0 _ rfl;have rc1:∀v,Below U10.heap.size U10 v→_:=fun v hv=>(hYc.below hv).c 1 _ rfl;have rc2:∀v,Below U10.heap.size U10 v→_:=fun v hv=>(hYc.below hv).c 2 _ rfl;have rc3:∀v,Below U10.heap.size U10 v→_:=fun v hv=>(hYc.below hv).c 3 _ rfl;have rc4:∀v,Below U10.heap.size U10 v→_:=fun v hv=>(hYc.below hv).c 4 _ rfl;have rc5:∀v,Below U10.heap.size U10 v→_:=fun v hv=>(hYc.below hv).c 5 _ rfl;have rc6:∀v,Below U10.heap.size U10 v→_:=fun v hv=>(hYc.below hv).c 6 _ rfl;have rc7:∀v,Below U10.heap.size U10 v→_:=fun v hv=>(hYc.below hv).c 7 _ rfl;have rc8:∀v,Below U10.heap.size U10 v→_:=fun v hv=>(hYc.below hv).c 8 _ rfl;have rc9:∀v,Below U10.heap.size U10 v→_:=fun v hv=>(hYc.below hv).c 9 _ rfl;have rc10:∀v,Below U10.heap.size U10 v→_:=fun v hv=>(hYc.below hv).c 10 _ rfl
 clear hYc;clear bU;have b10:=Below.refl U10.heap.size U10;go_wp2_with fail;refine(CO0.out _ (HB.out.below HG.out b10)).mono ?_;rintro e0 U11 ⟨⟨pk0,ck0,rfl,hck0,hlk0⟩,b⟩;have bU:=Below.more b10 b;clear b;replace rr0:=fun v (h:Below U11.heap.size U11 v)=>rr0 v (Below.more bU h);replace rr1:=fun v (h:Below U11.heap.size U11 v)=>rr1 v (Below.more bU h);replace rq0:=fun v (h:Below U11.heap.size U11 v)=>rq0 v (Below.more bU h);replace rq1:=fun v (h:Below U11.heap.size U11 v)=>rq1 v (Below.more bU h);replace ra0:=fun v (h:Below U11.heap.size U11 v)=>ra0 v (Below.more bU h);replace ra1:=fun v (h:Below U11.heap.size U11 v)=>ra1 v (Below.more bU h);replace ra2:=fun v (h:Below U11.heap.size U11 v)=>ra2 v (Below.more bU h);replace ra3:=fun v (h:Below U11.heap.size U11 v)=>ra3 v (Below.more bU h);replace ra4:=fun v (h:Below U11.heap.size U11 v)=>ra4 v (Below.more bU h);replace ra5:=fun v (h:Below U11.heap.size U11 v)=>ra5 v (Below.more bU h);replace ra6:=fun v (h:Below U11.heap.size U11 v)=>ra6 v (Below.more bU h);replace ra7:=fun v (h:Below U11.heap.size U11 v)=>ra7 v (Below.more bU h);replace ra8:=fun v (h:Below U11.heap.size U11 v)=>ra8 v (Below.more bU h);replace ra9:=fun v (h:Below U11.heap.size U11 v)=>ra9 v (Below.more bU h);replace ra10:=fun v (h:Below U11.heap.size U11 v)=>ra10 v (Below.more bU h);replace rb0:=fun v (h:Below U11.heap.size U11 v)=>rb0 v (Below.more bU h);replace rb1:=fun v (h:Below U11.heap.size U11 v)=>rb1 v (Below.more bU h);replace rb2:=fun v (h:Below U11.heap.size U11 v)=>rb2 v (Below.more bU h)
 replace rb3:=fun v (h:Below U11.heap.size U11 v)=>rb3 v (Below.more bU h);replace rb4:=fun v (h:Below U11.heap.size U11 v)=>rb4 v (Below.more bU h);replace rb5:=fun v (h:Below U11.heap.size U11 v)=>rb5 v (Below.more bU h);replace rb6:=fun v (h:Below U11.heap.size U11 v)=>rb6 v (Below.more bU h);replace rb7:=fun v (h:Below U11.heap.size U11 v)=>rb7 v (Below.more bU h);replace rb8:=fun v (h:Below U11.heap.size U11 v)=>rb8 v (Below.more bU h);replace rb9:=fun v (h:Below U11.heap.size U11 v)=>rb9 v (Below.more bU h);replace rb10:=fun v (h:Below U11.heap.size U11 v)=>rb10 v (Below.more bU h);replace rc0:=fun v (h:Below U11.heap.size U11 v)=>rc0 v (Below.more bU h);replace rc1:=fun v (h:Below U11.heap.size U11 v)=>rc1 v (Below.more bU h);replace rc2:=fun v (h:Below U11.heap.size U11 v)=>rc2 v (Below.more bU h);replace rc3:=fun v (h:Below U11.heap.size U11 v)=>rc3 v (Below.more bU h);replace rc4:=fun v (h:Below U11.heap.size U11 v)=>rc4 v (Below.more bU h);replace rc5:=fun v (h:Below U11.heap.size U11 v)=>rc5 v (Below.more bU h);replace rc6:=fun v (h:Below U11.heap.size U11 v)=>rc6 v (Below.more bU h);replace rc7:=fun v (h:Below U11.heap.size U11 v)=>rc7 v (Below.more bU h);replace rc8:=fun v (h:Below U11.heap.size U11 v)=>rc8 v (Below.more bU h);replace rc9:=fun v (h:Below U11.heap.size U11 v)=>rc9 v (Below.more bU h);replace rc10:=fun v (h:Below U11.heap.size U11 v)=>rc10 v (Below.more bU h);replace Lf:=zh (Lf.out.below bU);replace BW:=Below.more BW bU;replace HG:=zh (HB.out.below HG.out bU)
 have Lk0:=zh hlk0;clear hlk0;clear bU;have b11:=Below.refl U11.heap.size U11;replace Lk0:Hid (Pts _ pk0 [x0]):=Lk0;go_wp2_with fail;refine(CV0.out _ _ _ _ hck0 (Lk0.out.below b11) (Lf.out.below b11) (HB.out.below HG.out b11)).mono ?_;rintro e w12 ⟨rfl,b⟩;have b12:=Below.more b11 b;clear b;have ba:=fun x=>Below.alloc b12 (Below.size b12) x;go_wp2_with fail;clear ba;obtain⟨U13,hU,bU,s13,kk⟩:=layN b12 #[.string ⟨un0.toArray⟩,.string ⟨ud0.toArray⟩] 23;rw[hU];clear hU;have ru0:=kk 0 _ rfl;have ru1:=kk 1 _ rfl
 clear kk s13;replace rr0:=fun v (h:Below U13.heap.size U13 v)=>rr0 v (Below.more bU h);replace rr1:=fun v (h:Below U13.heap.size U13 v)=>rr1 v (Below.more bU h);replace rq0:=fun v (h:Below U13.heap.size U13 v)=>rq0 v (Below.more bU h);replace rq1:=fun v (h:Below U13.heap.size U13 v)=>rq1 v (Below.more bU h);replace ra0:=fun v (h:Below U13.heap.size U13 v)=>ra0 v (Below.more bU h);replace ra1:=fun v (h:Below U13.heap.size U13 v)=>ra1 v (Below.more bU h);replace ra2:=fun v (h:Below U13.heap.size U13 v)=>ra2 v (Below.more bU h);replace ra3:=fun v (h:Below U13.heap.size U13 v)=>ra3 v (Below.more bU h);replace ra4:=fun v (h:Below U13.heap.size U13 v)=>ra4 v (Below.more bU h);replace ra5:=fun v (h:Below U13.heap.size U13 v)=>ra5 v (Below.more bU h);replace ra6:=fun v (h:Below U13.heap.size U13 v)=>ra6 v (Below.more bU h);replace ra7:=fun v (h:Below U13.heap.size U13 v)=>ra7 v (Below.more bU h);replace ra8:=fun v (h:Below U13.heap.size U13 v)=>ra8 v (Below.more bU h);replace ra9:=fun v (h:Below U13.heap.size U13 v)=>ra9 v (Below.more bU h);replace ra10:=fun v (h:Below U13.heap.size U13 v)=>ra10 v (Below.more bU h);replace rb0:=fun v (h:Below U13.heap.size U13 v)=>rb0 v (Below.more bU h);replace rb1:=fun v (h:Below U13.heap.size U13 v)=>rb1 v (Below.more bU h);replace rb2:=fun v (h:Below U13.heap.size U13 v)=>rb2 v (Below.more bU h);replace rb3:=fun v (h:Below U13.heap.size U13 v)=>rb3 v (Below.more bU h);replace rb4:=fun v (h:Below U13.heap.size U13 v)=>rb4 v (Below.more bU h);replace rb5:=fun v (h:Below U13.heap.size U13 v)=>rb5 v (Below.more bU h)
 replace rb6:=fun v (h:Below U13.heap.size U13 v)=>rb6 v (Below.more bU h);replace rb7:=fun v (h:Below U13.heap.size U13 v)=>rb7 v (Below.more bU h);replace rb8:=fun v (h:Below U13.heap.size U13 v)=>rb8 v (Below.more bU h);replace rb9:=fun v (h:Below U13.heap.size U13 v)=>rb9 v (Below.more bU h);replace rb10:=fun v (h:Below U13.heap.size U13 v)=>rb10 v (Below.more bU h);replace rc0:=fun v (h:Below U13.heap.size U13 v)=>rc0 v (Below.more bU h);replace rc1:=fun v (h:Below U13.heap.size U13 v)=>rc1 v (Below.more bU h);replace rc2:=fun v (h:Below U13.heap.size U13 v)=>rc2 v (Below.more bU h);replace rc3:=fun v (h:Below U13.heap.size U13 v)=>rc3 v (Below.more bU h);replace rc4:=fun v (h:Below U13.heap.size U13 v)=>rc4 v (Below.more bU h);replace rc5:=fun v (h:Below U13.heap.size U13 v)=>rc5 v (Below.more bU h);replace rc6:=fun v (h:Below U13.heap.size U13 v)=>rc6 v (Below.more bU h);replace rc7:=fun v (h:Below U13.heap.size U13 v)=>rc7 v (Below.more bU h);replace rc8:=fun v (h:Below U13.heap.size U13 v)=>rc8 v (Below.more bU h);replace rc9:=fun v (h:Below U13.heap.size U13 v)=>rc9 v (Below.more bU h);replace rc10:=fun v (h:Below U13.heap.size U13 v)=>rc10 v (Below.more bU h);replace Lf:=zh (Lf.out.below bU);replace Lk0:=zh (Lk0.out.below bU);replace BW:=Below.more BW bU;replace HG:=zh (HB.out.below HG.out bU);clear bU;have b13:=Below.refl U13.heap.size U13;go_wp2_with fail;refine(CO1.out _ (HB.out.below HG.out b13)).mono ?_;rintro e0 U14 ⟨⟨pk1,ck1,rfl,hck1,hlk1⟩,b⟩;have bU:=Below.more b13 b
 clear b;replace rr0:=fun v (h:Below U14.heap.size U14 v)=>rr0 v (Below.more bU h);replace rr1:=fun v (h:Below U14.heap.size U14 v)=>rr1 v (Below.more bU h);replace rq0:=fun v (h:Below U14.heap.size U14 v)=>rq0 v (Below.more bU h);replace rq1:=fun v (h:Below U14.heap.size U14 v)=>rq1 v (Below.more bU h);replace ra0:=fun v (h:Below U14.heap.size U14 v)=>ra0 v (Below.more bU h);replace ra1:=fun v (h:Below U14.heap.size U14 v)=>ra1 v (Below.more bU h);replace ra2:=fun v (h:Below U14.heap.size U14 v)=>ra2 v (Below.more bU h);replace ra3:=fun v (h:Below U14.heap.size U14 v)=>ra3 v (Below.more bU h);replace ra4:=fun v (h:Below U14.heap.size U14 v)=>ra4 v (Below.more bU h);replace ra5:=fun v (h:Below U14.heap.size U14 v)=>ra5 v (Below.more bU h);replace ra6:=fun v (h:Below U14.heap.size U14 v)=>ra6 v (Below.more bU h);replace ra7:=fun v (h:Below U14.heap.size U14 v)=>ra7 v (Below.more bU h);replace ra8:=fun v (h:Below U14.heap.size U14 v)=>ra8 v (Below.more bU h);replace ra9:=fun v (h:Below U14.heap.size U14 v)=>ra9 v (Below.more bU h);replace ra10:=fun v (h:Below U14.heap.size U14 v)=>ra10 v (Below.more bU h);replace rb0:=fun v (h:Below U14.heap.size U14 v)=>rb0 v (Below.more bU h);replace rb1:=fun v (h:Below U14.heap.size U14 v)=>rb1 v (Below.more bU h);replace rb2:=fun v (h:Below U14.heap.size U14 v)=>rb2 v (Below.more bU h);replace rb3:=fun v (h:Below U14.heap.size U14 v)=>rb3 v (Below.more bU h);replace rb4:=fun v (h:Below U14.heap.size U14 v)=>rb4 v (Below.more bU h);replace rb5:=fun v (h:Below U14.heap.size U14 v)=>rb5 v (Below.more bU h)
 replace rb6:=fun v (h:Below U14.heap.size U14 v)=>rb6 v (Below.more bU h);replace rb7:=fun v (h:Below U14.heap.size U14 v)=>rb7 v (Below.more bU h);replace rb8:=fun v (h:Below U14.heap.size U14 v)=>rb8 v (Below.more bU h);replace rb9:=fun v (h:Below U14.heap.size U14 v)=>rb9 v (Below.more bU h);replace rb10:=fun v (h:Below U14.heap.size U14 v)=>rb10 v (Below.more bU h);replace rc0:=fun v (h:Below U14.heap.size U14 v)=>rc0 v (Below.more bU h);replace rc1:=fun v (h:Below U14.heap.size U14 v)=>rc1 v (Below.more bU h);replace rc2:=fun v (h:Below U14.heap.size U14 v)=>rc2 v (Below.more bU h);replace rc3:=fun v (h:Below U14.heap.size U14 v)=>rc3 v (Below.more bU h);replace rc4:=fun v (h:Below U14.heap.size U14 v)=>rc4 v (Below.more bU h);replace rc5:=fun v (h:Below U14.heap.size U14 v)=>rc5 v (Below.more bU h);replace rc6:=fun v (h:Below U14.heap.size U14 v)=>rc6 v (Below.more bU h);replace rc7:=fun v (h:Below U14.heap.size U14 v)=>rc7 v (Below.more bU h);replace rc8:=fun v (h:Below U14.heap.size U14 v)=>rc8 v (Below.more bU h);replace rc9:=fun v (h:Below U14.heap.size U14 v)=>rc9 v (Below.more bU h);replace rc10:=fun v (h:Below U14.heap.size U14 v)=>rc10 v (Below.more bU h);replace ru0:=fun v (h:Below U14.heap.size U14 v)=>ru0 v (Below.more bU h);replace ru1:=fun v (h:Below U14.heap.size U14 v)=>ru1 v (Below.more bU h);replace Lf:=zh (Lf.out.below bU);replace Lk0:=zh (Lk0.out.below bU);replace BW:=Below.more BW bU;replace HG:=zh (HB.out.below HG.out bU);have Lk1:=zh hlk1;clear hlk1
 clear bU;have b14:=Below.refl U14.heap.size U14;replace Lk1:Hid (Pts _ pk1 [x1]):=Lk1;go_wp2_with fail;refine(CV1.out _ _ _ _ hck1 (Lk1.out.below b14) (Lf.out.below b14) (HB.out.below HG.out b14)).mono ?_;rintro e w15 ⟨rfl,b⟩;have b15:=Below.more b14 b;clear b;have ba:=fun x=>Below.alloc b15 (Below.size b15) x;go_wp2_with fail;clear ba;obtain⟨U16,hU,bU,s16,kk⟩:=layN b15 #[.string ⟨un1.toArray⟩,.string ⟨ud1.toArray⟩] 23;rw[hU];clear hU;have rv0:=kk 0 _ rfl;have rv1:=kk 1 _ rfl
 clear kk s16;replace rr0:=fun v (h:Below U16.heap.size U16 v)=>rr0 v (Below.more bU h);replace rr1:=fun v (h:Below U16.heap.size U16 v)=>rr1 v (Below.more bU h);replace rq0:=fun v (h:Below U16.heap.size U16 v)=>rq0 v (Below.more bU h);replace rq1:=fun v (h:Below U16.heap.size U16 v)=>rq1 v (Below.more bU h);replace ra0:=fun v (h:Below U16.heap.size U16 v)=>ra0 v (Below.more bU h);replace ra1:=fun v (h:Below U16.heap.size U16 v)=>ra1 v (Below.more bU h);replace ra2:=fun v (h:Below U16.heap.size U16 v)=>ra2 v (Below.more bU h);replace ra3:=fun v (h:Below U16.heap.size U16 v)=>ra3 v (Below.more bU h);replace ra4:=fun v (h:Below U16.heap.size U16 v)=>ra4 v (Below.more bU h);replace ra5:=fun v (h:Below U16.heap.size U16 v)=>ra5 v (Below.more bU h);replace ra6:=fun v (h:Below U16.heap.size U16 v)=>ra6 v (Below.more bU h);replace ra7:=fun v (h:Below U16.heap.size U16 v)=>ra7 v (Below.more bU h);replace ra8:=fun v (h:Below U16.heap.size U16 v)=>ra8 v (Below.more bU h);replace ra9:=fun v (h:Below U16.heap.size U16 v)=>ra9 v (Below.more bU h);replace ra10:=fun v (h:Below U16.heap.size U16 v)=>ra10 v (Below.more bU h);replace rb0:=fun v (h:Below U16.heap.size U16 v)=>rb0 v (Below.more bU h);replace rb1:=fun v (h:Below U16.heap.size U16 v)=>rb1 v (Below.more bU h);replace rb2:=fun v (h:Below U16.heap.size U16 v)=>rb2 v (Below.more bU h);replace rb3:=fun v (h:Below U16.heap.size U16 v)=>rb3 v (Below.more bU h);replace rb4:=fun v (h:Below U16.heap.size U16 v)=>rb4 v (Below.more bU h);replace rb5:=fun v (h:Below U16.heap.size U16 v)=>rb5 v (Below.more bU h)
 replace rb6:=fun v (h:Below U16.heap.size U16 v)=>rb6 v (Below.more bU h);replace rb7:=fun v (h:Below U16.heap.size U16 v)=>rb7 v (Below.more bU h);replace rb8:=fun v (h:Below U16.heap.size U16 v)=>rb8 v (Below.more bU h);replace rb9:=fun v (h:Below U16.heap.size U16 v)=>rb9 v (Below.more bU h);replace rb10:=fun v (h:Below U16.heap.size U16 v)=>rb10 v (Below.more bU h);replace rc0:=fun v (h:Below U16.heap.size U16 v)=>rc0 v (Below.more bU h);replace rc1:=fun v (h:Below U16.heap.size U16 v)=>rc1 v (Below.more bU h);replace rc2:=fun v (h:Below U16.heap.size U16 v)=>rc2 v (Below.more bU h);replace rc3:=fun v (h:Below U16.heap.size U16 v)=>rc3 v (Below.more bU h);replace rc4:=fun v (h:Below U16.heap.size U16 v)=>rc4 v (Below.more bU h);replace rc5:=fun v (h:Below U16.heap.size U16 v)=>rc5 v (Below.more bU h);replace rc6:=fun v (h:Below U16.heap.size U16 v)=>rc6 v (Below.more bU h);replace rc7:=fun v (h:Below U16.heap.size U16 v)=>rc7 v (Below.more bU h);replace rc8:=fun v (h:Below U16.heap.size U16 v)=>rc8 v (Below.more bU h);replace rc9:=fun v (h:Below U16.heap.size U16 v)=>rc9 v (Below.more bU h);replace rc10:=fun v (h:Below U16.heap.size U16 v)=>rc10 v (Below.more bU h);replace ru0:=fun v (h:Below U16.heap.size U16 v)=>ru0 v (Below.more bU h);replace ru1:=fun v (h:Below U16.heap.size U16 v)=>ru1 v (Below.more bU h);replace Lf:=zh (Lf.out.below bU);replace Lk0:=zh (Lk0.out.below bU);replace Lk1:=zh (Lk1.out.below bU);replace BW:=Below.more BW bU;replace HG:=zh (HB.out.below HG.out bU)
 clear bU;have b16:=Below.refl U16.heap.size U16;go_wp2_with fail;refine(CO2.out _ (HB.out.below HG.out b16)).mono ?_;rintro e0 U17 ⟨⟨pk2,ck2,rfl,hck2,hlk2⟩,b⟩;have bU:=Below.more b16 b;clear b;replace rr0:=fun v (h:Below U17.heap.size U17 v)=>rr0 v (Below.more bU h);replace rr1:=fun v (h:Below U17.heap.size U17 v)=>rr1 v (Below.more bU h);replace rq0:=fun v (h:Below U17.heap.size U17 v)=>rq0 v (Below.more bU h);replace rq1:=fun v (h:Below U17.heap.size U17 v)=>rq1 v (Below.more bU h);replace ra0:=fun v (h:Below U17.heap.size U17 v)=>ra0 v (Below.more bU h);replace ra1:=fun v (h:Below U17.heap.size U17 v)=>ra1 v (Below.more bU h);replace ra2:=fun v (h:Below U17.heap.size U17 v)=>ra2 v (Below.more bU h);replace ra3:=fun v (h:Below U17.heap.size U17 v)=>ra3 v (Below.more bU h);replace ra4:=fun v (h:Below U17.heap.size U17 v)=>ra4 v (Below.more bU h);replace ra5:=fun v (h:Below U17.heap.size U17 v)=>ra5 v (Below.more bU h);replace ra6:=fun v (h:Below U17.heap.size U17 v)=>ra6 v (Below.more bU h);replace ra7:=fun v (h:Below U17.heap.size U17 v)=>ra7 v (Below.more bU h);replace ra8:=fun v (h:Below U17.heap.size U17 v)=>ra8 v (Below.more bU h);replace ra9:=fun v (h:Below U17.heap.size U17 v)=>ra9 v (Below.more bU h);replace ra10:=fun v (h:Below U17.heap.size U17 v)=>ra10 v (Below.more bU h);replace rb0:=fun v (h:Below U17.heap.size U17 v)=>rb0 v (Below.more bU h);replace rb1:=fun v (h:Below U17.heap.size U17 v)=>rb1 v (Below.more bU h);replace rb2:=fun v (h:Below U17.heap.size U17 v)=>rb2 v (Below.more bU h)
 replace rb3:=fun v (h:Below U17.heap.size U17 v)=>rb3 v (Below.more bU h);replace rb4:=fun v (h:Below U17.heap.size U17 v)=>rb4 v (Below.more bU h);replace rb5:=fun v (h:Below U17.heap.size U17 v)=>rb5 v (Below.more bU h);replace rb6:=fun v (h:Below U17.heap.size U17 v)=>rb6 v (Below.more bU h);replace rb7:=fun v (h:Below U17.heap.size U17 v)=>rb7 v (Below.more bU h);replace rb8:=fun v (h:Below U17.heap.size U17 v)=>rb8 v (Below.more bU h);replace rb9:=fun v (h:Below U17.heap.size U17 v)=>rb9 v (Below.more bU h);replace rb10:=fun v (h:Below U17.heap.size U17 v)=>rb10 v (Below.more bU h);replace rc0:=fun v (h:Below U17.heap.size U17 v)=>rc0 v (Below.more bU h);replace rc1:=fun v (h:Below U17.heap.size U17 v)=>rc1 v (Below.more bU h);replace rc2:=fun v (h:Below U17.heap.size U17 v)=>rc2 v (Below.more bU h);replace rc3:=fun v (h:Below U17.heap.size U17 v)=>rc3 v (Below.more bU h);replace rc4:=fun v (h:Below U17.heap.size U17 v)=>rc4 v (Below.more bU h);replace rc5:=fun v (h:Below U17.heap.size U17 v)=>rc5 v (Below.more bU h);replace rc6:=fun v (h:Below U17.heap.size U17 v)=>rc6 v (Below.more bU h);replace rc7:=fun v (h:Below U17.heap.size U17 v)=>rc7 v (Below.more bU h);replace rc8:=fun v (h:Below U17.heap.size U17 v)=>rc8 v (Below.more bU h);replace rc9:=fun v (h:Below U17.heap.size U17 v)=>rc9 v (Below.more bU h);replace rc10:=fun v (h:Below U17.heap.size U17 v)=>rc10 v (Below.more bU h);replace ru0:=fun v (h:Below U17.heap.size U17 v)=>ru0 v (Below.more bU h);replace ru1:=fun v (h:Below U17.heap.size U17 v)=>ru1 v (Below.more bU h)
 replace rv0:=fun v (h:Below U17.heap.size U17 v)=>rv0 v (Below.more bU h);replace rv1:=fun v (h:Below U17.heap.size U17 v)=>rv1 v (Below.more bU h);replace Lf:=zh (Lf.out.below bU);replace Lk0:=zh (Lk0.out.below bU);replace Lk1:=zh (Lk1.out.below bU);replace BW:=Below.more BW bU;replace HG:=zh (HB.out.below HG.out bU);have Lk2:=zh hlk2;clear hlk2;clear bU;have b17:=Below.refl U17.heap.size U17;replace Lk2:Hid (Pts _ pk2 [x2]):=Lk2;go_wp2_with fail;refine(CV2.out _ _ _ _ hck2 (Lk2.out.below b17) (Lf.out.below b17) (HB.out.below HG.out b17)).mono ?_;rintro e w18 ⟨rfl,b⟩;have b18:=Below.more b17 b;clear b;have ba:=fun x=>Below.alloc b18 (Below.size b18) x;go_wp2_with fail;clear ba;obtain⟨U19,hU,bU,s19,kk⟩:=layN b18 #[.string ⟨un2.toArray⟩,.string ⟨ud2.toArray⟩] 23;rw[hU];clear hU;have rx0:=kk 0 _ rfl;have rx1:=kk 1 _ rfl
 clear kk s19;replace rr0:=fun v (h:Below U19.heap.size U19 v)=>rr0 v (Below.more bU h);replace rr1:=fun v (h:Below U19.heap.size U19 v)=>rr1 v (Below.more bU h);replace rq0:=fun v (h:Below U19.heap.size U19 v)=>rq0 v (Below.more bU h);replace rq1:=fun v (h:Below U19.heap.size U19 v)=>rq1 v (Below.more bU h);replace ra0:=fun v (h:Below U19.heap.size U19 v)=>ra0 v (Below.more bU h);replace ra1:=fun v (h:Below U19.heap.size U19 v)=>ra1 v (Below.more bU h);replace ra2:=fun v (h:Below U19.heap.size U19 v)=>ra2 v (Below.more bU h);replace ra3:=fun v (h:Below U19.heap.size U19 v)=>ra3 v (Below.more bU h);replace ra4:=fun v (h:Below U19.heap.size U19 v)=>ra4 v (Below.more bU h);replace ra5:=fun v (h:Below U19.heap.size U19 v)=>ra5 v (Below.more bU h);replace ra6:=fun v (h:Below U19.heap.size U19 v)=>ra6 v (Below.more bU h);replace ra7:=fun v (h:Below U19.heap.size U19 v)=>ra7 v (Below.more bU h);replace ra8:=fun v (h:Below U19.heap.size U19 v)=>ra8 v (Below.more bU h);replace ra9:=fun v (h:Below U19.heap.size U19 v)=>ra9 v (Below.more bU h);replace ra10:=fun v (h:Below U19.heap.size U19 v)=>ra10 v (Below.more bU h);replace rb0:=fun v (h:Below U19.heap.size U19 v)=>rb0 v (Below.more bU h);replace rb1:=fun v (h:Below U19.heap.size U19 v)=>rb1 v (Below.more bU h);replace rb2:=fun v (h:Below U19.heap.size U19 v)=>rb2 v (Below.more bU h);replace rb3:=fun v (h:Below U19.heap.size U19 v)=>rb3 v (Below.more bU h);replace rb4:=fun v (h:Below U19.heap.size U19 v)=>rb4 v (Below.more bU h);replace rb5:=fun v (h:Below U19.heap.size U19 v)=>rb5 v (Below.more bU h)
 replace rb6:=fun v (h:Below U19.heap.size U19 v)=>rb6 v (Below.more bU h);replace rb7:=fun v (h:Below U19.heap.size U19 v)=>rb7 v (Below.more bU h);replace rb8:=fun v (h:Below U19.heap.size U19 v)=>rb8 v (Below.more bU h);replace rb9:=fun v (h:Below U19.heap.size U19 v)=>rb9 v (Below.more bU h);replace rb10:=fun v (h:Below U19.heap.size U19 v)=>rb10 v (Below.more bU h);replace rc0:=fun v (h:Below U19.heap.size U19 v)=>rc0 v (Below.more bU h);replace rc1:=fun v (h:Below U19.heap.size U19 v)=>rc1 v (Below.more bU h);replace rc2:=fun v (h:Below U19.heap.size U19 v)=>rc2 v (Below.more bU h);replace rc3:=fun v (h:Below U19.heap.size U19 v)=>rc3 v (Below.more bU h);replace rc4:=fun v (h:Below U19.heap.size U19 v)=>rc4 v (Below.more bU h);replace rc5:=fun v (h:Below U19.heap.size U19 v)=>rc5 v (Below.more bU h);replace rc6:=fun v (h:Below U19.heap.size U19 v)=>rc6 v (Below.more bU h);replace rc7:=fun v (h:Below U19.heap.size U19 v)=>rc7 v (Below.more bU h);replace rc8:=fun v (h:Below U19.heap.size U19 v)=>rc8 v (Below.more bU h);replace rc9:=fun v (h:Below U19.heap.size U19 v)=>rc9 v (Below.more bU h);replace rc10:=fun v (h:Below U19.heap.size U19 v)=>rc10 v (Below.more bU h);replace ru0:=fun v (h:Below U19.heap.size U19 v)=>ru0 v (Below.more bU h);replace ru1:=fun v (h:Below U19.heap.size U19 v)=>ru1 v (Below.more bU h);replace rv0:=fun v (h:Below U19.heap.size U19 v)=>rv0 v (Below.more bU h);replace rv1:=fun v (h:Below U19.heap.size U19 v)=>rv1 v (Below.more bU h);replace Lf:=zh (Lf.out.below bU)
 replace Lk0:=zh (Lk0.out.below bU);replace Lk1:=zh (Lk1.out.below bU);replace Lk2:=zh (Lk2.out.below bU);replace BW:=Below.more BW bU;replace HG:=zh (HB.out.below HG.out bU);clear bU;have b19:=Below.refl U19.heap.size U19;have hB:=zh (Nat.le_refl U19.heap.size);refine wp_region_noPanic ?_;refine wp_region_held_drew (S:=fun w'=>Below U19.heap.size U19 w') (by kernel_rfl) (b19.drew) (fun hH0=>?_);refine wpAnyH_take (i:=0) (v:=?_) rfl (by kernel_rfl) (by kernel_rfl) (by kernel_rfl) (fun _ _ _ h=>h) (Or.inl ⟨by rfl,?_⟩) (by assumption) ?_;rotate_left 1
 ·(intro w hSw;(try dsimp only at hSw);go_simp<;>(with_reducible rfl))
 try simp only[Act.put,qA,qB,qC,qD,qE,qF]
 refine wpAnyH_take (i:=1) (v:=?_) rfl (by kernel_rfl) (by kernel_rfl) (by kernel_rfl) (fun _ _ _ h=>h) (Or.inl ⟨by rfl,?_⟩) (by assumption) ?_;rotate_left 1
 ·(intro w hSw;(try dsimp only at hSw);go_simp<;>(with_reducible rfl))
 try simp only[Act.put,qA,qB,qC,qD,qE,qF]
 refine wpAnyH_take (i:=2) (v:=?_) rfl (by kernel_rfl) (by kernel_rfl) (by kernel_rfl) (fun _ _ _ h=>h) (Or.inl ⟨by rfl,?_⟩) (by assumption) ?_;rotate_left 1
 ·(intro w hSw;(try dsimp only at hSw);go_simp<;>(with_reducible rfl))
 try simp only[Act.put,qA,qB,qC,qD,qE,qF]
 refine wpAnyH_take (i:=3) (v:=?_) rfl (by kernel_rfl) (by kernel_rfl) (by kernel_rfl) (fun _ _ _ h=>h) (Or.inl ⟨by rfl,?_⟩) (by assumption) ?_;rotate_left 1
 ·(intro w hSw;(try dsimp only at hSw);go_simp<;>(with_reducible rfl))
 try simp only[Act.put,qA,qB,qC,qD,qE,qF]
 refine wpAnyH_take (i:=4) (v:=?_) rfl (by kernel_rfl) (by kernel_rfl) (by kernel_rfl) (fun _ _ _ h=>h) (Or.inl ⟨by rfl,?_⟩) (by assumption) ?_;rotate_left 1
 ·(intro w hSw;(try dsimp only at hSw);go_simp<;>(with_reducible rfl))
 try simp only[Act.put,qA,qB,qC,qD,qE,qF]
 refine wpAnyH_take (i:=5) (v:=?_) rfl (by kernel_rfl) (by kernel_rfl) (by kernel_rfl) (fun _ _ _ h=>h) (Or.inl ⟨by rfl,?_⟩) (by assumption) ?_;rotate_left 1
 ·(intro w hSw;(try dsimp only at hSw);go_simp<;>(with_reducible rfl))
 try simp only[Act.put,qA,qB,qC,qD,qE,qF]
 refine wpAnyH_take (i:=6) (v:=?_) rfl (by kernel_rfl) (by kernel_rfl) (by kernel_rfl) (fun _ _ _ h=>h) (Or.inl ⟨by rfl,?_⟩) (by assumption) ?_;rotate_left 1
 ·(intro w hSw;(try dsimp only at hSw);go_simp<;>(with_reducible rfl))
 try simp only[Act.put,qA,qB,qC,qD,qE,qF]
 refine wpAnyH_take (i:=7) (v:=?_) rfl (by kernel_rfl) (by kernel_rfl) (by kernel_rfl) (fun _ _ _ h=>h) (Or.inl ⟨by rfl,?_⟩) (by assumption) ?_;rotate_left 1
 ·(intro w hSw;(try dsimp only at hSw);go_simp<;>(with_reducible rfl))
 try simp only[Act.put,qA,qB,qC,qD,qE,qF]
 refine wpAnyH_take (i:=8) (v:=?_) rfl (by kernel_rfl) (by kernel_rfl) (by kernel_rfl) (fun _ _ _ h=>h) (Or.inl ⟨by rfl,?_⟩) (by assumption) ?_;rotate_left 1
 ·(intro w hSw;(try dsimp only at hSw);go_simp<;>(with_reducible rfl))
 try simp only[Act.put,qA,qB,qC,qD,qE,qF]
 refine wpAnyH_take (i:=9) (v:=?_) rfl (by kernel_rfl) (by kernel_rfl) (by kernel_rfl) (fun _ _ _ h=>h) (Or.inl ⟨by rfl,?_⟩) (by assumption) ?_;rotate_left 1
 ·(intro w hSw;(try dsimp only at hSw);go_simp<;>(with_reducible rfl))
 try simp only[Act.put,qA,qB,qC,qD,qE,qF]
 refine wpAnyH_take (i:=10) (v:=?_) rfl (by kernel_rfl) (by kernel_rfl) (by kernel_rfl) (fun _ _ _ h=>h) (Or.inl ⟨by rfl,?_⟩) (by assumption) ?_;rotate_left 1
 ·(intro w hSw;(try dsimp only at hSw);go_simp<;>(with_reducible rfl))
 try simp only[Act.put,qA,qB,qC,qD,qE,qF]
 refine wpAnyH_ready (rs:=[11]) (by kernel_rfl) (by simp) ?_;refine AllReadyH.cons rfl (fun K hK=>?_) AllReadyH.nil
 go_simp
 refine(held (W:=U19) hB.out (CE0.out _) (by assumption)).mono ?_;rintro e x1 ⟨rfl,hb,hw⟩
 (try go_wp2_with fail)
 refine hK.out _ _ hw (fun hH1=>?_);clear hK hH0 hb hw
 try simp only[Act.put,qA,qB,qC,qD,qE,qF]
 refine wpAnyH_take (i:=12) (v:=?_) rfl (by kernel_rfl) (by kernel_rfl) (by kernel_rfl) (fun _ _ _ h=>h) (Or.inl ⟨by rfl,?_⟩) (by assumption) ?_;rotate_left 1
 ·(intro w hSw;(try dsimp only at hSw);go_simp<;>(with_reducible rfl))
 try simp only[Act.put,qA,qB,qC,qD,qE,qF]
 refine wpAnyH_take (i:=13) (v:=?_) rfl (by kernel_rfl) (by kernel_rfl) (by kernel_rfl) (fun _ _ _ h=>h) (Or.inl ⟨by rfl,?_⟩) (by assumption) ?_;rotate_left 1
 ·(intro w hSw;(try dsimp only at hSw);go_simp<;>(with_reducible rfl))
 try simp only[Act.put,qA,qB,qC,qD,qE,qF]
 refine wpAnyH_take (i:=14) (v:=?_) rfl (by kernel_rfl) (by kernel_rfl) (by kernel_rfl) (fun _ _ _ h=>h) (Or.inl ⟨by rfl,?_⟩) (by assumption) ?_;rotate_left 1
 ·(intro w hSw;(try dsimp only at hSw);go_simp<;>(with_reducible rfl))
 try simp only[Act.put,qA,qB,qC,qD,qE,qF]
 refine wpAnyH_take (i:=15) (v:=?_) rfl (by kernel_rfl) (by kernel_rfl) (by kernel_rfl) (fun _ _ _ h=>h) (Or.inl ⟨by rfl,?_⟩) (by assumption) ?_;rotate_left 1
 ·(intro w hSw;(try dsimp only at hSw);go_simp<;>(with_reducible rfl))
 try simp only[Act.put,qA,qB,qC,qD,qE,qF]
 refine wpAnyH_take (i:=16) (v:=?_) rfl (by kernel_rfl) (by kernel_rfl) (by kernel_rfl) (fun _ _ _ h=>h) (Or.inl ⟨by rfl,?_⟩) (by assumption) ?_;rotate_left 1
 ·(intro w hSw;(try dsimp only at hSw);go_simp<;>(with_reducible rfl))
 try simp only[Act.put,qA,qB,qC,qD,qE,qF]
 refine wpAnyH_take (i:=17) (v:=?_) rfl (by kernel_rfl) (by kernel_rfl) (by kernel_rfl) (fun _ _ _ h=>h) (Or.inl ⟨by rfl,?_⟩) (by assumption) ?_;rotate_left 1
 ·(intro w hSw;(try dsimp only at hSw);go_simp<;>(with_reducible rfl))
 try simp only[Act.put,qA,qB,qC,qD,qE,qF]
 refine wpAnyH_ready (rs:=[18]) (by kernel_rfl) (by simp) ?_;refine AllReadyH.cons rfl (fun K hK=>?_) AllReadyH.nil
 go_simp
 refine(held (W:=U19) hB.out (CE1.out _) (by assumption)).mono ?_;rintro e x2 ⟨rfl,hb,hw⟩
 (try go_wp2_with fail)
 refine hK.out _ _ hw (fun hH2=>?_);clear hK hH1 hb hw
 try simp only[Act.put,qA,qB,qC,qD,qE,qF]
 refine wpAnyH_take (i:=19) (v:=?_) rfl (by kernel_rfl) (by kernel_rfl) (by kernel_rfl) (fun _ _ _ h=>h) (Or.inl ⟨by rfl,?_⟩) (by assumption) ?_;rotate_left 1
 ·(intro w hSw;(try dsimp only at hSw);go_simp<;>(with_reducible rfl))
 try simp only[Act.put,qA,qB,qC,qD,qE,qF]
 refine wpAnyH_take (i:=20) (v:=?_) rfl (by kernel_rfl) (by kernel_rfl) (by kernel_rfl) (fun _ _ _ h=>h) (Or.inl ⟨by rfl,?_⟩) (by assumption) ?_;rotate_left 1
 ·(intro w hSw;(try dsimp only at hSw);go_simp<;>(with_reducible rfl))
 try simp only[Act.put,qA,qB,qC,qD,qE,qF]
 refine wpAnyH_take (i:=21) (v:=?_) rfl (by kernel_rfl) (by kernel_rfl) (by kernel_rfl) (fun _ _ _ h=>h) (Or.inl ⟨by rfl,?_⟩) (by assumption) ?_;rotate_left 1
 ·(intro w hSw;(try dsimp only at hSw);go_simp<;>(with_reducible rfl))
 try simp only[Act.put,qA,qB,qC,qD,qE,qF]
 refine wpAnyH_take (i:=22) (v:=?_) rfl (by kernel_rfl) (by kernel_rfl) (by kernel_rfl) (fun _ _ _ h=>h) (Or.inl ⟨by rfl,?_⟩) (by assumption) ?_;rotate_left 1
 ·(intro w hSw;(try dsimp only at hSw);go_simp<;>(with_reducible rfl))
 try simp only[Act.put,qA,qB,qC,qD,qE,qF]
 refine wpAnyH_take (i:=23) (v:=?_) rfl (by kernel_rfl) (by kernel_rfl) (by kernel_rfl) (fun _ _ _ h=>h) (Or.inl ⟨by rfl,?_⟩) (by assumption) ?_;rotate_left 1
 ·(intro w hSw;(try dsimp only at hSw);go_simp<;>(with_reducible rfl))
 try simp only[Act.put,qA,qB,qC,qD,qE,qF]
 refine wpAnyH_take (i:=24) (v:=?_) rfl (by kernel_rfl) (by kernel_rfl) (by kernel_rfl) (fun _ _ _ h=>h) (Or.inl ⟨by rfl,?_⟩) (by assumption) ?_;rotate_left 1
 ·(intro w hSw;(try dsimp only at hSw);go_simp<;>(with_reducible rfl))
 try simp only[Act.put,qA,qB,qC,qD,qE,qF]
 refine wpAnyH_ready (rs:=[25]) (by kernel_rfl) (by simp) ?_;refine AllReadyH.cons rfl (fun K hK=>?_) AllReadyH.nil
 go_simp
 refine(held (W:=U19) hB.out (CE2.out _) (by assumption)).mono ?_;rintro e x3 ⟨rfl,hb,hw⟩
 (try go_wp2_with fail)
 refine hK.out _ _ hw (fun hH3=>?_);clear hK hH2 hb hw
 try simp only[Act.put,qA,qB,qC,qD,qE,qF]
 refine wpAnyH_take (i:=26) (v:=?_) rfl (by kernel_rfl) (by kernel_rfl) (by kernel_rfl) (fun _ _ _ h=>h) (Or.inl ⟨by rfl,?_⟩) (by assumption) ?_;rotate_left 1
 ·(intro w hSw;(try dsimp only at hSw);go_simp<;>(with_reducible rfl))
 try simp only[Act.put,qA,qB,qC,qD,qE,qF]
 refine wpAnyH_take (i:=27) (v:=?_) rfl (by kernel_rfl) (by kernel_rfl) (by kernel_rfl) (fun _ _ _ h=>h) (Or.inl ⟨by rfl,?_⟩) (by assumption) ?_;rotate_left 1
 ·(intro w hSw;(try dsimp only at hSw);go_simp<;>(with_reducible rfl))
 try simp only[Act.put,qA,qB,qC,qD,qE,qF]
 refine wpAnyH_take (i:=28) (v:=?_) rfl (by kernel_rfl) (by kernel_rfl) (by kernel_rfl) (fun _ _ _ h=>h) (Or.inl ⟨by rfl,?_⟩) (by assumption) ?_;rotate_left 1
 ·(intro w hSw;(try dsimp only at hSw);go_simp<;>(with_reducible rfl))
 try simp only[Act.put,qA,qB,qC,qD,qE,qF]
 refine wpAnyH_done (by kernel_rfl) ?_ _;refine NoPanic.normal ?_;have b20:=hH3;clear hH3;clear hB;go_wp2_with fail;go_ret;exact⟨ret_bool (by first|rfl|simp),Below.more BW b20⟩
theorem splits16_any(H:PackC G)(x y x' y':ByteArray)(w:World)(hg:G w):Calls Tryz.prog 6 #[.agg #[.string x,.string y],.agg #[.string x',.string y']] w (GiveB w true):=by
 have k:=splits16_x x.data.toList y.data.toList x'.data.toList y'.data.toList H w hg;simp only[Array.toArray_toList]at k;exact k
end Go.Proofs.YthgopcnagecbaaaGreatDoor
