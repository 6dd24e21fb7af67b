/- Own work. -/
import Derived.Test.YthgopcnagecbaaaGreatDoorAllRefA4M
import Derived.Test.YthgopcnagecbaaaGreatDoorBlkM
set_option linter.unusedSimpArgs false
set_option linter.unusedVariables false
set_option maxHeartbeats 4000000
set_option maxRecDepth 100000
namespace Go.Proofs.YthgopcnagecbaaaGreatDoor
open Go.RowKit
open Ac (oB rB cB assetB numB wordK mayA Actn leastC)
def acL:List Value:=[.string ⟨#[115,112,108,105,116]⟩,.bool false,.int .i64 1,.int .i64 0,.string ⟨#[115,116,111,99,107]⟩,.bool false,.int .i64 1,.int .i64 0,.string ⟨#[99,97,115,104]⟩,.bool false,.int .i64 0,.int .i64 1,.string ⟨#[115,112,105,110]⟩,.bool true,.int .i64 1,.int .i64 0,.string ⟨#[109,101,114,103,101,114]⟩,.bool true,.int .i64 1,.int .i64 2]
structure GoodA(w:World):Prop where
 tab:GoodT w
 sh:∀ (k:Nat) (v:Value),acL[k]?=some v→w.cell? ⟨0,k,none⟩=some v
theorem GoodA.lt{w:World}(h:GoodA w):0<w.heap.size:=World.block_lt_of_cell? w ⟨0,0,none⟩ (h.sh 0 _ rfl)
theorem GoodA.below{w w':World}(h:GoodA w)(hb:Below w.heap.size w w'):GoodA w' :=
 ⟨h.tab.below hb,fun k v e=>(hb.cell (p:=⟨0,k,none⟩) h.lt).trans (h.sh k v e)⟩
theorem share_eq{s:ByteArray}(h0:0<s.size)(hn:isName s.data.toList=true):assetB s.data.toList=(decide ((97:Int)≤(s[0].toNat:Int))&&(decide ((s[0].toNat:Int)≤122)&&!decide (s.toList=[99,97,115,104]))):=by
 rw[asset_eq h0 hn];obtain⟨c,r,hs⟩:∃c r,s.data.toList=c::r:=by
  cases e:s.data.toList with
  | nil=>have:s.data.toList.length=s.size:=rfl;rw[e]at this;simp at this;omega
  | cons c r=>exact⟨c,r,rfl⟩
 have hc:s[0]=c:=by
  have h1:s.data.toList[0]?=some c:=by rw[hs];rfl
  have h2:s.data.toList[0]?=some s[0]:=by
   rw[Array.getElem?_toList];exact Array.getElem?_eq_getElem h0
  exact Option.some.inj (h2.symm.trans h1)
 rw[hs]at hn;have h3:okB 0 c=true:=by
  unfold isName at hn;simp only[Bool.and_eq_true,nmFrom]at hn;exact hn.1.1
 unfold okB nameC at h3;simp at h3;rw[hc,← Bool.and_assoc,← Bool.and_assoc]
 congr 1
 rw[Bool.eq_iff_iff];simp;omega
theorem ashare_b(s:ByteArray)(w:World):Calls Tryz.prog 71 #[.string s] w (GiveB w (assetB s.data.toList)):=by
 have CN:=zh (fun V=>bname_any s V);have b0:=Below.refl w.heap.size w
 cases hn:isName s.data.toList with
 | false =>
  have HE:Hid (assetB s.data.toList=false):=zh (by unfold assetB;rw[hn];rfl);rw[hn]at CN;clear hn;go_enter Tryz.func71,Tryz.ntmps71;go_wp2_with fail;refine(CN.out _).mono ?_;rintro e w1 ⟨rfl,b⟩;go_wp2_with fail;go_ret;exact⟨ret_bool (by rw[HE.out]),b⟩
 | true =>
  have h0:0<s.size:=by
   have:s.data.toList.length=s.size:=rfl
   cases e:s.data.toList with
   | nil=>rw[e]at hn;exact absurd hn (by decide)
   | cons c r=>rw[e]at this;simp at this;omega
  have HE:=zh (share_eq h0 hn);rw[hn]at CN;clear hn;rcases(show ¬(97:Int)≤(s[0].toNat:Int)∨(97:Int)≤(s[0].toNat:Int)∧¬(s[0].toNat:Int)≤122∨(97:Int)≤(s[0].toNat:Int)∧(s[0].toNat:Int)≤122 by omega) with c1|⟨c1,c2⟩|⟨c1,c2⟩<;>by_cases c4:s.toList=[99,97,115,104]<;>(
   go_enter Tryz.func71,Tryz.ntmps71;go_wp2_with fail;refine(CN.out _).mono ?_;rintro e w1 ⟨rfl,b⟩;go_wp2_with fail;go_ret;exact⟨ret_bool (by rw[HE.out];first|(simp[*];done)|(rw[Bool.eq_iff_iff];simp[*];omega)),b⟩)
theorem ashare_any(s:List UInt8)(w:World):Calls Tryz.prog 71 #[.string ⟨s.toArray⟩] w (GiveB w (assetB s)):=ashare_b ⟨s.toArray⟩ w
theorem adays_any(nm ast oth rn rd' cn cd:List UInt8)(k ex rc pay:Int)(w:World):Calls Tryz.prog 72 #[.agg #[.string ⟨nm.toArray⟩,.int .i64 k,.string ⟨ast.toArray⟩,.string ⟨oth.toArray⟩,.string ⟨rn.toArray⟩,.string ⟨rd'.toArray⟩,.string ⟨cn.toArray⟩,.string ⟨cd.toArray⟩,.int .i64 ex,.int .i64 rc,.int .i64 pay]] w (GiveB w (decide (0≤ex)&&(decide (ex≤rc)&&(decide (rc≤pay)&&decide (pay≤9999))))):=by
 rcases(show ¬0≤ex∨0≤ex∧¬ex≤rc∨0≤ex∧ex≤rc∧¬rc≤pay∨0≤ex∧ex≤rc∧rc≤pay∧¬pay≤9999∨0≤ex∧ex≤rc∧rc≤pay∧pay≤9999 by omega) with c1|⟨c1,c2⟩|⟨c1,c2,c3⟩|⟨c1,c2,c3,c4⟩|⟨c1,c2,c3,c4⟩<;>(
  go_enter Tryz.func72,Tryz.ntmps72;go_wp2_with fail;obtain⟨W,hW,BW,_,kk⟩:=layN (Below.refl w.heap.size w) #[.string ⟨nm.toArray⟩,.int .i64 k,.string ⟨ast.toArray⟩,.string ⟨oth.toArray⟩,.string ⟨rn.toArray⟩,.string ⟨rd'.toArray⟩,.string ⟨cn.toArray⟩,.string ⟨cd.toArray⟩,.int .i64 ex,.int .i64 rc,.int .i64 pay] 25;rw[hW];clear hW;have b0:=Below.refl W.heap.size W;have k0:=kk 0 _ rfl;have k1:=kk 1 _ rfl;have k2:=kk 2 _ rfl;have k3:=kk 3 _ rfl;have k4:=kk 4 _ rfl;have k5:=kk 5 _ rfl;have k6:=kk 6 _ rfl;have k7:=kk 7 _ rfl;have k8:=kk 8 _ rfl;have k9:=kk 9 _ rfl;have k10:=kk 10 _ rfl
  clear kk;go_wp2_with fail;go_ret;exact⟨ret_bool (by rw[Bool.eq_iff_iff];simp<;>omega),Below.more BW b0⟩)
theorem aother_any(nm ast oth rn rd' cn cd:List UInt8)(k ex rc pay:Int)(o:Bool)(w:World):Calls Tryz.prog 73 #[.agg #[.string ⟨nm.toArray⟩,.int .i64 k,.string ⟨ast.toArray⟩,.string ⟨oth.toArray⟩,.string ⟨rn.toArray⟩,.string ⟨rd'.toArray⟩,.string ⟨cn.toArray⟩,.string ⟨cd.toArray⟩,.int .i64 ex,.int .i64 rc,.int .i64 pay],.bool o] w (GiveB w (if o then assetB oth&&!(oth==ast) else oth == [])):=by
 have CO:=zh (fun V=>ashare_any oth V);generalize assetB oth=vo at *
 cases o with
 | false =>
  cases hq:(oth == [])<;>(
  go_enter Tryz.func73,Tryz.ntmps73;go_wp2_with fail;obtain⟨W,hW,BW,_,kk⟩:=layN (Below.refl w.heap.size w) #[.string ⟨nm.toArray⟩,.int .i64 k,.string ⟨ast.toArray⟩,.string ⟨oth.toArray⟩,.string ⟨rn.toArray⟩,.string ⟨rd'.toArray⟩,.string ⟨cn.toArray⟩,.string ⟨cd.toArray⟩,.int .i64 ex,.int .i64 rc,.int .i64 pay] 25;rw[hW];clear hW;have b0:=Below.refl W.heap.size W;have k0:=kk 0 _ rfl;have k1:=kk 1 _ rfl;have k2:=kk 2 _ rfl;have k3:=kk 3 _ rfl;have k4:=kk 4 _ rfl;have k5:=kk 5 _ rfl;have k6:=kk 6 _ rfl;have k7:=kk 7 _ rfl;have k8:=kk 8 _ rfl;have k9:=kk 9 _ rfl;have k10:=kk 10 _ rfl
  clear kk;go_wp2_with fail;go_ret;exact⟨ret_bool (by simp[*]),Below.more BW b0⟩)
 | true =>
  cases vo<;>cases hq:(oth==ast)<;>(
  go_enter Tryz.func73,Tryz.ntmps73;go_wp2_with fail;obtain⟨W,hW,BW,_,kk⟩:=layN (Below.refl w.heap.size w) #[.string ⟨nm.toArray⟩,.int .i64 k,.string ⟨ast.toArray⟩,.string ⟨oth.toArray⟩,.string ⟨rn.toArray⟩,.string ⟨rd'.toArray⟩,.string ⟨cn.toArray⟩,.string ⟨cd.toArray⟩,.int .i64 ex,.int .i64 rc,.int .i64 pay] 25;rw[hW];clear hW;have b0:=Below.refl W.heap.size W;have k0:=kk 0 _ rfl;have k1:=kk 1 _ rfl;have k2:=kk 2 _ rfl;have k3:=kk 3 _ rfl;have k4:=kk 4 _ rfl;have k5:=kk 5 _ rfl;have k6:=kk 6 _ rfl;have k7:=kk 7 _ rfl;have k8:=kk 8 _ rfl;have k9:=kk 9 _ rfl;have k10:=kk 10 _ rfl
  clear kk;go_wp2_with fail;refine(CO.out _).mono ?_;rintro e1 w1 ⟨rfl,b⟩;have b1:=Below.more b0 b;clear b;go_wp2_with fail;go_ret;exact⟨ret_bool (by simp[*]),Below.more BW b1⟩)
def fitsB(x:Key)(m:Int):Bool:=if x=([48],[49]) then !decide (m=1) else !decide (m=0)&&(decide (x.1.length≤20)&&(decide (x.2.length≤20)&&decide (0<sgnR x)))
def wantN(named:Bool)(least:Int):Int:=if named then (if least=0 then 2 else 1) else 0
theorem sgnR_is{x:Key}(h:0<sgnR x):isR x=true:=by
 unfold sgnR at h;split at h
 ·assumption
 ·omega
theorem sgnR_z{x:Key}(h:isR x=true)(h0:sgnR x=0):x=([48],[49]):=by
 unfold sgnR at h0;rw[if_pos h]at h0;have e:valR x=0:=sgnQ_eq_zero.1 h0;have k:=rd_valR h;rw[e]at k;rw[←k];decide +kernel
theorem fits_is(x:Key)(named:Bool)(least:Int)(hl:least=0∨least=1):fitsB x (wantN named least)=numB x named least:=by
 have h1:isR ([48],[49])=true:=by decide
 have h2:sgnR ([48],[49])=0:=by decide +kernel
 unfold fitsB wantN numB
 cases named with
 | false =>
  by_cases hx:x=([48],[49])
  ·rw[if_pos hx,hx];rfl
  ·rw[if_neg hx];simp[hx]
 | true =>
  by_cases hx:x=([48],[49])
  ·subst hx;rw[if_pos rfl,if_pos rfl,if_pos rfl,h1,h2];rcases hl with rfl|rfl<;>decide
  ·rw[if_neg hx,if_pos rfl,if_pos rfl]
   cases hr:isR x with
   | false =>
    have:¬0<sgnR x:=fun c=>by rw[sgnR_is c]at hr;cases hr
    simp[this]
   | true =>
    have h0:sgnR x≠0:=fun c=>hx (sgnR_z hr c);rw[Bool.eq_iff_iff];rcases hl with rfl|rfl<;>simp<;>omega
theorem afits_any(n d:List UInt8)(m:Int)(w:World)(hg:GoodA w):Calls Tryz.prog 74 #[.agg #[.string ⟨n.toArray⟩,.string ⟨d.toArray⟩],.int .i64 m] w (GiveB w (fitsB (n,d) m)):=by
 have CZ:Hid (∀V,GoodA V→Calls Tryz.prog 39 #[.int .i64 0] V (GiveR V ([48],[49]))):=zh (fun V g=>by
  have h:=qOf 0 (by decide) (by decide) V g.tab;rw[show rdN ((0:Int):Rat)=[48] by decide +kernel,show rdD ((0:Int):Rat)=[49] by decide +kernel]at h;exact h)
 have HG:=zh hg;clear hg;have HE:=zh (show fitsB (n,d) m=if (n,d)=([48],[49]) then !decide (m=1) else !decide (m=0)&&(decide (n.length≤20)&&(decide (d.length≤20)&&decide (0<sgnR (n,d)))) from rfl);rcases Classical.propComplete (n=[48]) with q1|q1<;>rcases Classical.propComplete (d=[49]) with q2|q2
 case inl.inl =>
  by_cases hm:m=1<;>(
  go_enter Tryz.func74,Tryz.ntmps74;go_wp2_with fail;obtain⟨W,hW,BW,sW,k0,k1⟩:=box1 w (.string ⟨n.toArray⟩) (.string ⟨d.toArray⟩) 23;rw[hW];clear hW sW;have b0:=Below.refl W.heap.size W;have hB:=zh (Nat.le_refl W.heap.size);go_wp2_with fail;refine wp_region_noPanic ?_;refine wp_region_held_drew (S:=fun w'=>Below W.heap.size W w') (by kernel_rfl) (b0.drew) (fun hH0=>?_);refine sch_in [0] ?_
  iterate 1 (refine sch_yes (v:=?_) rfl (by kernel_rfl) (by rfl) ?_ (by assumption) ?_;rotate_left 1;(· (intro w hSw;(try dsimp only at hSw);go_simp<;>(try simp only[q1,q2,if_true,if_false])<;>(with_reducible rfl)));try simp only[Act.put,qA,qB,qC,qD,qE,qF])
  refine sch_out ?_;refine wpAnyH_ready (rs:=[1]) (by kernel_rfl) (by simp) ?_;refine AllReadyH.cons rfl (fun K hK=>?_) AllReadyH.nil
  go_simp
  refine(held (W:=W) hB.out (CZ.out _ (HG.out.below (Below.more BW hH0))) hH0).mono ?_;rintro e x2 ⟨rfl,hb,hw⟩
  (try go_wp2_with fail)
  refine hK.out _ _ hw (fun hH1=>?_);clear hK hH0 hb
  try simp only[Act.put,qA,qB,qC,qD,qE,qF]
  refine sch_in [2] ?_
  iterate 1 (refine sch_yes (v:=?_) rfl (by kernel_rfl) (by rfl) ?_ (by assumption) ?_;rotate_left 1;(· (intro w hSw;(try dsimp only at hSw);go_simp<;>(try simp only[q1,q2,if_true,if_false])<;>(with_reducible rfl)));try simp only[Act.put,qA,qB,qC,qD,qE,qF])
  refine sch_out ?_;refine wpAnyH_done (by kernel_rfl) ?_ _;refine NoPanic.normal ?_;clear hH1;go_wp2_with fail;go_ret;exact⟨ret_bool (by rw[HE.out];simp[q1,q2,hm]),Below.more BW hw⟩)
 all_goals
  by_cases hm:m=0
  ·(
   go_enter Tryz.func74,Tryz.ntmps74;go_wp2_with fail;obtain⟨W,hW,BW,sW,k0,k1⟩:=box1 w (.string ⟨n.toArray⟩) (.string ⟨d.toArray⟩) 23;rw[hW];clear hW sW;have b0:=Below.refl W.heap.size W;have hB:=zh (Nat.le_refl W.heap.size);go_wp2_with fail;refine wp_region_noPanic ?_;refine wp_region_held_drew (S:=fun w'=>Below W.heap.size W w') (by kernel_rfl) (b0.drew) (fun hH0=>?_);refine sch_in [0] ?_
   iterate 1 (refine sch_yes (v:=?_) rfl (by kernel_rfl) (by rfl) ?_ (by assumption) ?_;rotate_left 1;(· (intro w hSw;(try dsimp only at hSw);go_simp<;>(try simp only[q1,q2,if_true,if_false])<;>(with_reducible rfl)));try simp only[Act.put,qA,qB,qC,qD,qE,qF])
   refine sch_out ?_;refine wpAnyH_ready (rs:=[1]) (by kernel_rfl) (by simp) ?_;refine AllReadyH.cons rfl (fun K hK=>?_) AllReadyH.nil
   go_simp
   refine(held (W:=W) hB.out (CZ.out _ (HG.out.below (Below.more BW hH0))) hH0).mono ?_;rintro e x2 ⟨rfl,hb,hw⟩
   (try go_wp2_with fail)
   refine hK.out _ _ hw (fun hH1=>?_);clear hK hH0 hb
   try simp only[Act.put,qA,qB,qC,qD,qE,qF]
   refine sch_in [2] ?_
   iterate 1 (refine sch_yes (v:=?_) rfl (by kernel_rfl) (by rfl) ?_ (by assumption) ?_;rotate_left 1;(· (intro w hSw;(try dsimp only at hSw);go_simp<;>(try simp only[q1,q2,if_true,if_false])<;>(with_reducible rfl)));try simp only[Act.put,qA,qB,qC,qD,qE,qF])
   refine sch_out ?_;refine wpAnyH_done (by kernel_rfl) ?_ _;refine NoPanic.normal ?_;clear hH1;go_wp2_with fail;go_ret;exact⟨ret_bool (by rw[HE.out];simp[q1,q2,hm]),Below.more BW hw⟩)
  by_cases hn:n.length≤20
  case neg =>
   have hn':¬(n.length:Int)≤20:=by omega
   go_enter Tryz.func74,Tryz.ntmps74;go_wp2_with fail;obtain⟨W,hW,BW,sW,k0,k1⟩:=box1 w (.string ⟨n.toArray⟩) (.string ⟨d.toArray⟩) 23;rw[hW];clear hW sW;have b0:=Below.refl W.heap.size W;have hB:=zh (Nat.le_refl W.heap.size);go_wp2_with fail;refine wp_region_noPanic ?_;refine wp_region_held_drew (S:=fun w'=>Below W.heap.size W w') (by kernel_rfl) (b0.drew) (fun hH0=>?_);refine sch_in [0] ?_
   iterate 1 (refine sch_yes (v:=?_) rfl (by kernel_rfl) (by rfl) ?_ (by assumption) ?_;rotate_left 1;(· (intro w hSw;(try dsimp only at hSw);go_simp<;>(try simp only[q1,q2,if_true,if_false])<;>(with_reducible rfl)));try simp only[Act.put,qA,qB,qC,qD,qE,qF])
   refine sch_out ?_;refine wpAnyH_ready (rs:=[1]) (by kernel_rfl) (by simp) ?_;refine AllReadyH.cons rfl (fun K hK=>?_) AllReadyH.nil
   go_simp
   refine(held (W:=W) hB.out (CZ.out _ (HG.out.below (Below.more BW hH0))) hH0).mono ?_;rintro e x2 ⟨rfl,hb,hw⟩
   (try go_wp2_with fail)
   refine hK.out _ _ hw (fun hH1=>?_);clear hK hH0 hb
   try simp only[Act.put,qA,qB,qC,qD,qE,qF]
   refine sch_in [2] ?_
   iterate 1 (refine sch_yes (v:=?_) rfl (by kernel_rfl) (by rfl) ?_ (by assumption) ?_;rotate_left 1;(· (intro w hSw;(try dsimp only at hSw);go_simp<;>(try simp only[q1,q2,if_true,if_false])<;>(with_reducible rfl)));try simp only[Act.put,qA,qB,qC,qD,qE,qF])
   refine sch_out ?_;refine wpAnyH_done (by kernel_rfl) ?_ _;refine NoPanic.normal ?_;clear hH1;go_wp2_with fail;go_ret;exact⟨ret_bool (by rw[HE.out];simp[q1,q2,hm,hn]),Below.more BW hw⟩
  by_cases hd:d.length≤20
  case neg =>
   have hn':(n.length:Int)≤20:=by omega
   have hd':¬(d.length:Int)≤20:=by omega
   go_enter Tryz.func74,Tryz.ntmps74;go_wp2_with fail;obtain⟨W,hW,BW,sW,k0,k1⟩:=box1 w (.string ⟨n.toArray⟩) (.string ⟨d.toArray⟩) 23;rw[hW];clear hW sW;have b0:=Below.refl W.heap.size W;have hB:=zh (Nat.le_refl W.heap.size);go_wp2_with fail;refine wp_region_noPanic ?_;refine wp_region_held_drew (S:=fun w'=>Below W.heap.size W w') (by kernel_rfl) (b0.drew) (fun hH0=>?_);refine sch_in [0] ?_
   iterate 1 (refine sch_yes (v:=?_) rfl (by kernel_rfl) (by rfl) ?_ (by assumption) ?_;rotate_left 1;(· (intro w hSw;(try dsimp only at hSw);go_simp<;>(try simp only[q1,q2,if_true,if_false])<;>(with_reducible rfl)));try simp only[Act.put,qA,qB,qC,qD,qE,qF])
   refine sch_out ?_;refine wpAnyH_ready (rs:=[1]) (by kernel_rfl) (by simp) ?_;refine AllReadyH.cons rfl (fun K hK=>?_) AllReadyH.nil
   go_simp
   refine(held (W:=W) hB.out (CZ.out _ (HG.out.below (Below.more BW hH0))) hH0).mono ?_;rintro e x2 ⟨rfl,hb,hw⟩
   (try go_wp2_with fail)
   refine hK.out _ _ hw (fun hH1=>?_);clear hK hH0 hb
   try simp only[Act.put,qA,qB,qC,qD,qE,qF]
   refine sch_in [2] ?_
   iterate 1 (refine sch_yes (v:=?_) rfl (by kernel_rfl) (by rfl) ?_ (by assumption) ?_;rotate_left 1;(· (intro w hSw;(try dsimp only at hSw);go_simp<;>(try simp only[q1,q2,if_true,if_false])<;>(with_reducible rfl)));try simp only[Act.put,qA,qB,qC,qD,qE,qF])
   refine sch_out ?_;refine wpAnyH_done (by kernel_rfl) ?_ _;refine NoPanic.normal ?_;clear hH1;go_wp2_with fail;go_ret;exact⟨ret_bool (by rw[HE.out];simp[q1,q2,hm,hn,hd]),Below.more BW hw⟩
  have CS:Hid (∀V,Calls Tryz.prog 42 #[.agg #[.string ⟨n.toArray⟩,.string ⟨d.toArray⟩]] V (GiveI V (sgnR (n,d)))):=zh (fun V=>qsign_any ⟨n.toArray⟩ ⟨d.toArray⟩ V (by rw[size_of];omega) (by rw[size_of];omega));have hn':(n.length:Int)≤20:=by omega
  have hd':(d.length:Int)≤20:=by omega
  generalize sgnR (n,d)=z at *;by_cases hz:0<z<;>(
   go_enter Tryz.func74,Tryz.ntmps74;go_wp2_with fail;obtain⟨W,hW,BW,sW,k0,k1⟩:=box1 w (.string ⟨n.toArray⟩) (.string ⟨d.toArray⟩) 23;rw[hW];clear hW sW;have b0:=Below.refl W.heap.size W;have hB:=zh (Nat.le_refl W.heap.size);go_wp2_with fail;refine wp_region_noPanic ?_;refine wp_region_held_drew (S:=fun w'=>Below W.heap.size W w') (by kernel_rfl) (b0.drew) (fun hH0=>?_);refine sch_in [0] ?_
   iterate 1 (refine sch_yes (v:=?_) rfl (by kernel_rfl) (by rfl) ?_ (by assumption) ?_;rotate_left 1;(· (intro w hSw;(try dsimp only at hSw);go_simp<;>(try simp only[q1,q2,if_true,if_false])<;>(with_reducible rfl)));try simp only[Act.put,qA,qB,qC,qD,qE,qF])
   refine sch_out ?_;refine wpAnyH_ready (rs:=[1]) (by kernel_rfl) (by simp) ?_;refine AllReadyH.cons rfl (fun K hK=>?_) AllReadyH.nil
   go_simp
   refine(held (W:=W) hB.out (CZ.out _ (HG.out.below (Below.more BW hH0))) hH0).mono ?_;rintro e x2 ⟨rfl,hb,hw⟩
   (try go_wp2_with fail)
   refine hK.out _ _ hw (fun hH1=>?_);clear hK hH0 hb
   try simp only[Act.put,qA,qB,qC,qD,qE,qF]
   refine sch_in [2] ?_
   iterate 1 (refine sch_yes (v:=?_) rfl (by kernel_rfl) (by rfl) ?_ (by assumption) ?_;rotate_left 1;(· (intro w hSw;(try dsimp only at hSw);go_simp<;>(try simp only[q1,q2,if_true,if_false])<;>(with_reducible rfl)));try simp only[Act.put,qA,qB,qC,qD,qE,qF])
   refine sch_out ?_;refine wpAnyH_done (by kernel_rfl) ?_ _;refine NoPanic.normal ?_;clear hH1;go_wp2_with fail;refine(CS.out _).mono ?_;rintro e w1 ⟨rfl,b⟩;have b1:=Below.more hw b;clear b;go_wp2_with fail;go_ret;exact⟨ret_bool (by rw[HE.out];simp[q1,q2,hm,hn,hd,hz]),Below.more BW b1⟩)
end Go.Proofs.YthgopcnagecbaaaGreatDoor
