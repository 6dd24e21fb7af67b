/- Own work. -/
import Derived.Test.YtghioekjghmdaaaGreatDoorEvPla
import Derived.Test.YtghioekjghmdaaaGreatDoorEvOrd
import Derived.Test.YtghioekjghmdaaaGreatDoorBlkM
set_option linter.unusedSimpArgs false
set_option linter.unusedVariables false
set_option maxHeartbeats 4000000
set_option maxRecDepth 100000
namespace Go.Proofs.YtghioekjghmdaaaGreatDoor
open Go.RowKit
open Tm (Nd Tr treeOf checkT plainN avN)
variable {G : World → Prop}
open Ev (Pla pla_num numN hiQ loQ)
theorem gd_parts{an ad bn bd cn cd:List UInt8}(h:(gdQ (⟨⟨an.toArray⟩,⟨ad.toArray⟩⟩:ByteArray×ByteArray)&&(gdQ (⟨⟨bn.toArray⟩,⟨bd.toArray⟩⟩:ByteArray×ByteArray)&&gdQ (⟨⟨cn.toArray⟩,⟨cd.toArray⟩⟩:ByteArray×ByteArray)))=true) :
  (isR (an,ad)=true∧isR (bn,bd)=true∧isR (cn,cd)=true)∧(an.length≤100∧ad.length≤100)∧(bn.length≤100∧bd.length≤100)∧(cn.length≤100∧cd.length≤100):=by
 unfold gdQ shQ at h;simp only[Bool.and_eq_true,decide_eq_true_eq,size_of]at h;exact⟨⟨h.1.2,h.2.1.2,h.2.2.2⟩,h.1.1,h.2.1.1,h.2.2.1⟩
theorem num_sz{a:Key}(h1:a.1.length≤100)(h2:a.2.length≤100):∀x∈[numN a],SzN x:=fun x hx=>by
 obtain rfl:=List.mem_singleton.1 hx;exact⟨⟨h1,h2,Nat.zero_le _⟩,(szN_plain 0 (by decide) (by decide)).2⟩
theorem nd1(w:World)(c1 c2 c3:Array Value)(l:List Nd)(h:c1.toList=l.flatMap encD):Nds (((w.alloc (.cells c1 55)).alloc (.cells c2 55)).alloc (.cells c3 55)) (some ⟨w.heap.size,0,none⟩) l:=by
 have k:=ndsLit w l c1 h;exact((k.below (Below.alloc (Below.refl _ _) (Nat.le_refl _) _)).below (Below.alloc (Below.refl _ _) (Nat.le_refl _) _))
theorem nd2(w:World)(c1 c2 c3:Array Value)(l:List Nd)(h:c2.toList=l.flatMap encD):Nds (((w.alloc (.cells c1 55)).alloc (.cells c2 55)).alloc (.cells c3 55)) (some ⟨w.heap.size+1,0,none⟩) l:=by
 have k:=ndsLit (w.alloc (.cells c1 55)) l c2 h;have e:(w.alloc (.cells c1 55)).heap.size=w.heap.size+1:=by simp
 rw[e]at k;exact(k.below (Below.alloc (Below.refl _ _) (Nat.le_refl _) _))
theorem nd3(w:World)(c1 c2 c3:Array Value)(l:List Nd)(h:c3.toList=l.flatMap encD):Nds (((w.alloc (.cells c1 55)).alloc (.cells c2 55)).alloc (.cells c3 55)) (some ⟨w.heap.size+1+1,0,none⟩) l:=by
 have k:=ndsLit ((w.alloc (.cells c1 55)).alloc (.cells c2 55)) l c3 h;have e:((w.alloc (.cells c1 55)).alloc (.cells c2 55)).heap.size=w.heap.size+1+1:=by simp
 rw[e]at k;exact k
theorem choice13_any(H:EvalC G)(an:List UInt8)(ad:List UInt8)(bn:List UInt8)(bd:List UInt8)(cn:List UInt8)(cd:List UInt8)(w:World)(hl:an.length≤9223372036854775807∧ad.length≤9223372036854775807∧bn.length≤9223372036854775807∧bd.length≤9223372036854775807∧cn.length≤9223372036854775807∧cd.length≤9223372036854775807)(hg:G w) :
  Calls Tryz.prog 8 #[.agg #[.string ⟨an.toArray⟩,.string ⟨ad.toArray⟩],.agg #[.string ⟨bn.toArray⟩,.string ⟨bd.toArray⟩],.agg #[.string ⟨cn.toArray⟩,.string ⟨cd.toArray⟩]] w (GiveB w true):=by
 have HB:=zh H;have HG:=zh hg;clear H hg
 go_enter Tryz.func8,Tryz.ntmps8;have BW:=Below.refl w.heap.size w;have b0:=Below.refl w.heap.size w;go_wp2_with fail;obtain⟨U1,hU,bU,s1,ra0,ra1⟩:=lay b0 (.string ⟨an.toArray⟩) (.string ⟨ad.toArray⟩) 28;rw[hU];clear hU;replace BW:=Below.more BW bU;replace HG:=zh (HB.out.below HG.out bU);clear bU;have b1:=Below.refl U1.heap.size U1;obtain⟨U2,hU,bU,s2,rb0,rb1⟩:=lay b1 (.string ⟨bn.toArray⟩) (.string ⟨bd.toArray⟩) 28;rw[hU];clear hU;rw[←s1]at rb0 rb1;replace ra0:=fun v (h:Below U2.heap.size U2 v)=>ra0 v (Below.more bU h);replace ra1:=fun v (h:Below U2.heap.size U2 v)=>ra1 v (Below.more bU h);replace BW:=Below.more BW bU;replace HG:=zh (HB.out.below HG.out bU);clear bU;have b2:=Below.refl U2.heap.size U2;obtain⟨U3,hU,bU,s3,rc0,rc1⟩:=lay b2 (.string ⟨cn.toArray⟩) (.string ⟨cd.toArray⟩) 28;rw[hU];clear hU;rw[←s2]at rc0 rc1;rw[←s1]at rc0 rc1;replace ra0:=fun v (h:Below U3.heap.size U3 v)=>ra0 v (Below.more bU h);replace ra1:=fun v (h:Below U3.heap.size U3 v)=>ra1 v (Below.more bU h);replace rb0:=fun v (h:Below U3.heap.size U3 v)=>rb0 v (Below.more bU h);replace rb1:=fun v (h:Below U3.heap.size U3 v)=>rb1 v (Below.more bU h);replace BW:=Below.more BW bU;replace HG:=zh (HB.out.below HG.out bU);clear bU;have b3:=Below.refl U3.heap.size U3;clear s1 s2 s3;refine(fixed13_any HB.out _ HG.out).mono ?_;rintro e w4 ⟨rfl,b⟩;have b4:=Below.more b3 b;clear b;go_wp2_with fail;refine(good3 w4 (⟨⟨an.toArray⟩,⟨ad.toArray⟩⟩:ByteArray×ByteArray) (⟨⟨bn.toArray⟩,⟨bd.toArray⟩⟩:ByteArray×ByteArray) (⟨⟨cn.toArray⟩,⟨cd.toArray⟩⟩:ByteArray×ByteArray)).mono ?_
 rintro e w5 ⟨rfl,b⟩;have b5:=Below.more b4 b;clear b
 cases hgd:(gdQ (⟨⟨an.toArray⟩,⟨ad.toArray⟩⟩:ByteArray×ByteArray)&&(gdQ (⟨⟨bn.toArray⟩,⟨bd.toArray⟩⟩:ByteArray×ByteArray)&&gdQ (⟨⟨cn.toArray⟩,⟨cd.toArray⟩⟩:ByteArray×ByteArray))) with
 | false =>
  go_wp2_with fail;refine(fixed13_any HB.out _ (HB.out.below HG.out b5)).mono ?_;rintro e w9 ⟨rfl,b⟩;have b9:=Below.more b5 b;go_wp2_with fail;go_ret;exact⟨ret_bool rfl,Below.more BW b9⟩
 | true =>
 have gs:=gd_parts hgd;clear hgd;by_cases g1:(120:Int)<((((an.length:Int)+ad.length)+bn.length)+bd.length+cn.length)+cd.length
 ·skip
  go_wp2_with fail;refine(fixed13_any HB.out _ (HB.out.below HG.out b5)).mono ?_;rintro e w9 ⟨rfl,b⟩;have b9:=Below.more b5 b;go_wp2_with fail;go_ret;exact⟨ret_bool rfl,Below.more BW b9⟩
 obtain⟨⟨ga,gb,gc⟩,⟨ha1,ha2⟩,⟨hb1,hb2⟩,⟨hc1,hc2⟩⟩:=gs;have eX:=rd_valR ga;have eY:=rd_valR gb;have eZ:=rd_valR gc
 generalize valR (an,ad)=X at eX;generalize valR (bn,bd)=Y at eY;generalize valR (cn,cd)=Z at eZ;obtain rfl:(rd X).1=an:=congrArg Prod.fst eX;obtain rfl:(rd X).2=ad:=congrArg Prod.snd eX;obtain rfl:(rd Y).1=bn:=congrArg Prod.fst eY;obtain rfl:(rd Y).2=bd:=congrArg Prod.snd eY;obtain rfl:(rd Z).1=cn:=congrArg Prod.fst eZ;obtain rfl:(rd Z).2=cd:=congrArg Prod.snd eZ;clear eX eY eZ ga gb gc;go_wp2_with fail;have hB:=zh (Nat.le_refl U3.heap.size)
 go_cut [7,8,9] from 54 to 62 (fun t1 t2 t3 wx=>(∃px py pz,t1=.slice px 1 1∧Nds wx px [numN (rd X)]∧t2=.slice py 1 1∧Nds wx py [numN (rd Y)]∧t3=.slice pz 1 1∧Nds wx pz [numN (rd Z)])∧Below U3.heap.size U3 wx)
 case first =>
  first|(go_region_held3 (fun w'=>Below U3.heap.size U3 w')
   (first|(exact b5.drew)|(with_reducible assumption)|(exact Below.alloc (by with_reducible assumption) (Nat.le_trans hB.out (Below.size (by with_reducible assumption))) _)|(exact put2 (by with_reducible assumption) (Nat.le_refl _) _ _)|(exact put2 (by with_reducible assumption) hB.out _ _)|(exact put2 (by with_reducible assumption) (Nat.le_trans hB.out (Below.size (by with_reducible assumption))) _ _))
   (fail))|fail
  all_goals (go_wp2_with fail)
  all_goals (go_meet)
  all_goals (refine⟨⟨_,_,_,rfl,?_,rfl,?_,rfl,?_⟩,by with_reducible assumption⟩)
  all_goals (first|exact nd1 _ _ _ _ _ rfl|exact nd2 _ _ _ _ _ rfl|exact nd3 _ _ _ _ _ rfl)
 case rest =>
  obtain⟨⟨px,py,pz,rfl,lx,rfl,ly,rfl,lz⟩,hcc⟩:=hcut;clear hB;replace ra0:=fun v (h:Below wc.heap.size wc v)=>ra0 v (Below.more hcc h);replace ra1:=fun v (h:Below wc.heap.size wc v)=>ra1 v (Below.more hcc h);replace rb0:=fun v (h:Below wc.heap.size wc v)=>rb0 v (Below.more hcc h);replace rb1:=fun v (h:Below wc.heap.size wc v)=>rb1 v (Below.more hcc h);replace rc0:=fun v (h:Below wc.heap.size wc v)=>rc0 v (Below.more hcc h);replace rc1:=fun v (h:Below wc.heap.size wc v)=>rc1 v (Below.more hcc h);replace BW:=Below.more BW hcc;replace HG:=zh (HB.out.below HG.out hcc);have Lx:=zh lx;have Ly:=zh ly;have Lz:=zh lz
  clear lx ly lz;clear hcc;have b20:=Below.refl wc.heap.size wc;go_wp2_with fail;refine(rtcheck_any _ _ [numN (rd X)] _ (szN_ref (num_sz ha1 ha2)) (Lx.out.below b20)).mono ?_;rintro e w21 ⟨rfl,b⟩;have b21:=Below.more b20 b;clear b;rcases Tm.check_two [numN (rd X)] with kx|kx<;>rw[kx]
  rotate_left 1
  ·go_wp2_with fail;go_ret;exact⟨ret_bool rfl,Below.more BW b21⟩
  replace kx:=Ev.num_ok kx;have Px:=zh (pla_num kx ha1 ha2);rw[valR_rd]at Px;clear kx;go_wp2_with fail;refine(rtcheck_any _ _ [numN (rd Y)] _ (szN_ref (num_sz hb1 hb2)) (Ly.out.below b21)).mono ?_;rintro e w22 ⟨rfl,b⟩;have b22:=Below.more b21 b;clear b;rcases Tm.check_two [numN (rd Y)] with ky|ky<;>rw[ky]
  rotate_left 1
  ·go_wp2_with fail;go_ret;exact⟨ret_bool rfl,Below.more BW b22⟩
  replace ky:=Ev.num_ok ky;have Py:=zh (pla_num ky hb1 hb2);rw[valR_rd]at Py;clear ky;go_wp2_with fail;refine(rtcheck_any _ _ [numN (rd Z)] _ (szN_ref (num_sz hc1 hc2)) (Lz.out.below b22)).mono ?_;rintro e w23 ⟨rfl,b⟩;have b23:=Below.more b22 b;clear b;rcases Tm.check_two [numN (rd Z)] with kz|kz<;>rw[kz]
  rotate_left 1
  ·go_wp2_with fail;go_ret;exact⟨ret_bool rfl,Below.more BW b23⟩
  replace kz:=Ev.num_ok kz;have Pz:=zh (pla_num kz hc1 hc2);rw[valR_rd]at Pz;clear kz;have sX:ShQ X:=⟨by omega,by omega⟩;have sY:ShQ Y:=⟨by omega,by omega⟩;have sH:ShQ (hiQ X Y):=by unfold hiQ;split;exact sX;exact sY
  have sL:ShQ (loQ X Y):=by unfold loQ;split;exact sX;exact sY
  have H3:=zh (Px.out.three Py.out Pz.out);have HH:=zh (Px.out.two (op:=10) (by decide) Py.out);have HL:=zh (Px.out.two (op:=11) (by decide) Py.out);have V3:=zh (show Ev.evalE _ []=(rd (if 0<sgnQ X then Y else Z),(0:Int)) from (H3.out.eval (by decide) (by decide) (by decide)).1);have VH:=zh (show Ev.evalE _ []=(rd (hiQ X Y),(0:Int)) from (HH.out.eval (by decide) (by decide) (by decide)).1);have VL:=zh (show Ev.evalE _ []=(rd (loQ X Y),(0:Int)) from (HL.out.eval (by decide) (by decide) (by decide)).1);have cs:=fun V=>esign sX V;have c1:=fun V=>ecmp sH sX rfl V;have c2:=fun V=>ecmp sH sY rfl V;have c3:=fun V=>ecmp sL sX rfl V;have c4:=fun V=>ecmp sL sY rfl V;have c5:=fun V=>eadd sH sL V;have c6:=fun V=>eadd sX sY V;rw[Ev.hi_lo]at c5;have q1:=Ev.sgn_le.2 (Ev.le_hi X Y).1;have q2:=Ev.sgn_le.2 (Ev.le_hi X Y).2;have q3:=Ev.sgn_ge.2 (Ev.lo_le X Y).1;have q4:=Ev.sgn_ge.2 (Ev.lo_le X Y).2;generalize sgnQ (hiQ X Y-X)=t1 at *;generalize sgnQ (hiQ X Y-Y)=t2 at *;generalize sgnQ (loQ X Y-X)=t3 at *;generalize sgnQ (loQ X Y-Y)=t4 at *;generalize X+Y=XY at *;generalize hiQ X Y=Hh at *;generalize loQ X Y=Qq at *;generalize sgnQ X=sx at *;obtain⟨P,HP⟩:∃P,Hid ((if 0<sx then Y else Z)=P):=⟨_,zh rfl⟩;have v3:=V3.out;rw[HP.out]at v3;replace V3:=zh v3;clear v3;have CS:=zh cs;have C1:=zh c1;have C2:=zh c2;have C3:=zh c3;have C4:=zh c4;have C5:=zh c5;have C6:=zh c6
  clear cs c1 c2 c3 c4 c5 c6 sX sY sH sL;go_wp2_with fail;have hrow:=trms3 w23 px py pz 1 1 1 1 1 1 [numN (rd X)] [numN (rd Y)] [numN (rd Z)] rfl rfl rfl (Nat.le_refl _) (Nat.le_refl _) (Nat.le_refl _) (Lx.out.below b23) (Ly.out.below b23) (Lz.out.below b23);have bn:Below w23.heap.size w23 (w23.alloc (.cells #[.slice px 1 1,.slice py 1 1,.slice pz 1 1] 23)):=Below.alloc (Below.refl _ _) (Nat.le_refl _) _;obtain⟨U24,hU⟩:∃U,w23.alloc (.cells #[.slice px 1 1,.slice py 1 1,.slice pz 1 1] 23)=U:=⟨_,rfl⟩;rw[hU]at hrow bn ⊢;have bU:=Below.more b23 bn;clear bn;replace ra0:=fun v (h:Below U24.heap.size U24 v)=>ra0 v (Below.more bU h);replace ra1:=fun v (h:Below U24.heap.size U24 v)=>ra1 v (Below.more bU h);replace rb0:=fun v (h:Below U24.heap.size U24 v)=>rb0 v (Below.more bU h);replace rb1:=fun v (h:Below U24.heap.size U24 v)=>rb1 v (Below.more bU h);replace rc0:=fun v (h:Below U24.heap.size U24 v)=>rc0 v (Below.more bU h);replace rc1:=fun v (h:Below U24.heap.size U24 v)=>rc1 v (Below.more bU h);replace Lx:=zh (Lx.out.below bU);replace Ly:=zh (Ly.out.below bU);replace Lz:=zh (Lz.out.below bU);replace BW:=Below.more BW bU;replace HG:=zh (HB.out.below HG.out bU);have Lu:=zh hrow;clear hrow hU;clear bU;have b24:=Below.refl U24.heap.size U24;refine(join3_pla Px.out Py.out Pz.out (by decide) Lu.out).mono ?_;rintro e0 U25 ⟨⟨pp,cp,rfl,hcp,hlp⟩,b⟩;have bU:=Below.more b24 b;clear b;replace ra0:=fun v (h:Below U25.heap.size U25 v)=>ra0 v (Below.more bU h);replace ra1:=fun v (h:Below U25.heap.size U25 v)=>ra1 v (Below.more bU h)
  replace rb0:=fun v (h:Below U25.heap.size U25 v)=>rb0 v (Below.more bU h);replace rb1:=fun v (h:Below U25.heap.size U25 v)=>rb1 v (Below.more bU h);replace rc0:=fun v (h:Below U25.heap.size U25 v)=>rc0 v (Below.more bU h);replace rc1:=fun v (h:Below U25.heap.size U25 v)=>rc1 v (Below.more bU h);replace Lx:=zh (Lx.out.below bU);replace Ly:=zh (Ly.out.below bU);replace Lz:=zh (Lz.out.below bU);replace Lu:=zh (Lu.out.below bU);replace BW:=Below.more BW bU;replace HG:=zh (HB.out.below HG.out bU);have Lp:=zh hlp;clear hlp;clear bU;have b25:=Below.refl U25.heap.size U25;go_wp2_with fail;refine(eval_pla HB.out H3.out (by decide) (by decide) (by decide) (by decide) V3.out hcp (Lp.out.below b25) (HB.out.below HG.out b25)).mono ?_;rintro e w26 ⟨rfl,b⟩;have b26:=Below.more b25 b;clear b;have ba:=fun x=>Below.alloc b26 (Below.size b26) x;go_wp2_with fail;obtain⟨U27,hU,bU,s27,rp0,rp1⟩:=lay b26 (.string ⟨(rd P).1.toArray⟩) (.string ⟨(rd P).2.toArray⟩) 28;rw[hU];clear hU ba;replace ra0:=fun v (h:Below U27.heap.size U27 v)=>ra0 v (Below.more bU h);replace ra1:=fun v (h:Below U27.heap.size U27 v)=>ra1 v (Below.more bU h);replace rb0:=fun v (h:Below U27.heap.size U27 v)=>rb0 v (Below.more bU h);replace rb1:=fun v (h:Below U27.heap.size U27 v)=>rb1 v (Below.more bU h);replace rc0:=fun v (h:Below U27.heap.size U27 v)=>rc0 v (Below.more bU h);replace rc1:=fun v (h:Below U27.heap.size U27 v)=>rc1 v (Below.more bU h);replace Lx:=zh (Lx.out.below bU);replace Ly:=zh (Ly.out.below bU);replace Lz:=zh (Lz.out.below bU)
  replace Lu:=zh (Lu.out.below bU);replace Lp:=zh (Lp.out.below bU);replace BW:=Below.more BW bU;replace HG:=zh (HB.out.below HG.out bU);clear bU;have b27:=Below.refl U27.heap.size U27;rw[s27];clear s27;have hrow:=trms2 U27 px py 1 1 1 1 [numN (rd X)] [numN (rd Y)] rfl rfl (Nat.le_refl _) (Nat.le_refl _) (Lx.out.below b27) (Ly.out.below b27);have bn:Below U27.heap.size U27 (U27.alloc (.cells #[.slice px 1 1,.slice py 1 1] 23)):=Below.alloc (Below.refl _ _) (Nat.le_refl _) _;obtain⟨U28,hU⟩:∃U,U27.alloc (.cells #[.slice px 1 1,.slice py 1 1] 23)=U:=⟨_,rfl⟩;rw[hU]at hrow bn ⊢;have bU:=Below.more b27 bn;clear bn;replace ra0:=fun v (h:Below U28.heap.size U28 v)=>ra0 v (Below.more bU h);replace ra1:=fun v (h:Below U28.heap.size U28 v)=>ra1 v (Below.more bU h);replace rb0:=fun v (h:Below U28.heap.size U28 v)=>rb0 v (Below.more bU h);replace rb1:=fun v (h:Below U28.heap.size U28 v)=>rb1 v (Below.more bU h);replace rc0:=fun v (h:Below U28.heap.size U28 v)=>rc0 v (Below.more bU h);replace rc1:=fun v (h:Below U28.heap.size U28 v)=>rc1 v (Below.more bU h);replace rp0:=fun v (h:Below U28.heap.size U28 v)=>rp0 v (Below.more bU h);replace rp1:=fun v (h:Below U28.heap.size U28 v)=>rp1 v (Below.more bU h);replace Lx:=zh (Lx.out.below bU);replace Ly:=zh (Ly.out.below bU);replace Lz:=zh (Lz.out.below bU);replace Lu:=zh (Lu.out.below bU);replace Lp:=zh (Lp.out.below bU);replace BW:=Below.more BW bU;replace HG:=zh (HB.out.below HG.out bU);have Lv:=zh hrow;clear hrow hU;clear bU;have b28:=Below.refl U28.heap.size U28
  refine(join_pla (op:=10) Px.out Py.out (by decide) Lv.out).mono ?_;rintro e0 U29 ⟨⟨ph,ch,rfl,hch,hlh⟩,b⟩;have bU:=Below.more b28 b;clear b;replace ra0:=fun v (h:Below U29.heap.size U29 v)=>ra0 v (Below.more bU h);replace ra1:=fun v (h:Below U29.heap.size U29 v)=>ra1 v (Below.more bU h);replace rb0:=fun v (h:Below U29.heap.size U29 v)=>rb0 v (Below.more bU h);replace rb1:=fun v (h:Below U29.heap.size U29 v)=>rb1 v (Below.more bU h);replace rc0:=fun v (h:Below U29.heap.size U29 v)=>rc0 v (Below.more bU h);replace rc1:=fun v (h:Below U29.heap.size U29 v)=>rc1 v (Below.more bU h);replace rp0:=fun v (h:Below U29.heap.size U29 v)=>rp0 v (Below.more bU h);replace rp1:=fun v (h:Below U29.heap.size U29 v)=>rp1 v (Below.more bU h);replace Lx:=zh (Lx.out.below bU);replace Ly:=zh (Ly.out.below bU);replace Lz:=zh (Lz.out.below bU);replace Lu:=zh (Lu.out.below bU);replace Lp:=zh (Lp.out.below bU);replace Lv:=zh (Lv.out.below bU);replace BW:=Below.more BW bU;replace HG:=zh (HB.out.below HG.out bU);have Lh:=zh hlh;clear hlh;clear bU;have b29:=Below.refl U29.heap.size U29;go_wp2_with fail;refine(eval_pla HB.out HH.out (by decide) (by decide) (by decide) (by decide) VH.out hch (Lh.out.below b29) (HB.out.below HG.out b29)).mono ?_;rintro e w30 ⟨rfl,b⟩;have b30:=Below.more b29 b;clear b;have ba:=fun x=>Below.alloc b30 (Below.size b30) x;go_wp2_with fail;obtain⟨U31,hU,bU,s31,rh0,rh1⟩:=lay b30 (.string ⟨(rd Hh).1.toArray⟩) (.string ⟨(rd Hh).2.toArray⟩) 28;rw[hU];clear hU ba;replace ra0:=fun v (h:Below U31.heap.size U31 v)=>ra0 v (Below.more bU h)
  replace ra1:=fun v (h:Below U31.heap.size U31 v)=>ra1 v (Below.more bU h);replace rb0:=fun v (h:Below U31.heap.size U31 v)=>rb0 v (Below.more bU h);replace rb1:=fun v (h:Below U31.heap.size U31 v)=>rb1 v (Below.more bU h);replace rc0:=fun v (h:Below U31.heap.size U31 v)=>rc0 v (Below.more bU h);replace rc1:=fun v (h:Below U31.heap.size U31 v)=>rc1 v (Below.more bU h);replace rp0:=fun v (h:Below U31.heap.size U31 v)=>rp0 v (Below.more bU h);replace rp1:=fun v (h:Below U31.heap.size U31 v)=>rp1 v (Below.more bU h);replace Lx:=zh (Lx.out.below bU);replace Ly:=zh (Ly.out.below bU);replace Lz:=zh (Lz.out.below bU);replace Lu:=zh (Lu.out.below bU);replace Lp:=zh (Lp.out.below bU);replace Lv:=zh (Lv.out.below bU);replace Lh:=zh (Lh.out.below bU);replace BW:=Below.more BW bU;replace HG:=zh (HB.out.below HG.out bU);clear bU;have b31:=Below.refl U31.heap.size U31;rw[s31];clear s31;have hrow:=trms2 U31 px py 1 1 1 1 [numN (rd X)] [numN (rd Y)] rfl rfl (Nat.le_refl _) (Nat.le_refl _) (Lx.out.below b31) (Ly.out.below b31);have bn:Below U31.heap.size U31 (U31.alloc (.cells #[.slice px 1 1,.slice py 1 1] 23)):=Below.alloc (Below.refl _ _) (Nat.le_refl _) _;obtain⟨U32,hU⟩:∃U,U31.alloc (.cells #[.slice px 1 1,.slice py 1 1] 23)=U:=⟨_,rfl⟩;rw[hU]at hrow bn ⊢;have bU:=Below.more b31 bn;clear bn;replace ra0:=fun v (h:Below U32.heap.size U32 v)=>ra0 v (Below.more bU h);replace ra1:=fun v (h:Below U32.heap.size U32 v)=>ra1 v (Below.more bU h);replace rb0:=fun v (h:Below U32.heap.size U32 v)=>rb0 v (Below.more bU h)
  replace rb1:=fun v (h:Below U32.heap.size U32 v)=>rb1 v (Below.more bU h);replace rc0:=fun v (h:Below U32.heap.size U32 v)=>rc0 v (Below.more bU h);replace rc1:=fun v (h:Below U32.heap.size U32 v)=>rc1 v (Below.more bU h);replace rp0:=fun v (h:Below U32.heap.size U32 v)=>rp0 v (Below.more bU h);replace rp1:=fun v (h:Below U32.heap.size U32 v)=>rp1 v (Below.more bU h);replace rh0:=fun v (h:Below U32.heap.size U32 v)=>rh0 v (Below.more bU h);replace rh1:=fun v (h:Below U32.heap.size U32 v)=>rh1 v (Below.more bU h);replace Lx:=zh (Lx.out.below bU);replace Ly:=zh (Ly.out.below bU);replace Lz:=zh (Lz.out.below bU);replace Lu:=zh (Lu.out.below bU);replace Lp:=zh (Lp.out.below bU);replace Lv:=zh (Lv.out.below bU);replace Lh:=zh (Lh.out.below bU);replace BW:=Below.more BW bU;replace HG:=zh (HB.out.below HG.out bU);have Lt:=zh hrow;clear hrow hU;clear bU;have b32:=Below.refl U32.heap.size U32;refine(join_pla (op:=11) Px.out Py.out (by decide) Lt.out).mono ?_;rintro e0 U33 ⟨⟨pl,cl,rfl,hcl,hll⟩,b⟩;have bU:=Below.more b32 b;clear b;replace ra0:=fun v (h:Below U33.heap.size U33 v)=>ra0 v (Below.more bU h);replace ra1:=fun v (h:Below U33.heap.size U33 v)=>ra1 v (Below.more bU h);replace rb0:=fun v (h:Below U33.heap.size U33 v)=>rb0 v (Below.more bU h);replace rb1:=fun v (h:Below U33.heap.size U33 v)=>rb1 v (Below.more bU h);replace rc0:=fun v (h:Below U33.heap.size U33 v)=>rc0 v (Below.more bU h);replace rc1:=fun v (h:Below U33.heap.size U33 v)=>rc1 v (Below.more bU h);replace rp0:=fun v (h:Below U33.heap.size U33 v)=>rp0 v (Below.more bU h)
  replace rp1:=fun v (h:Below U33.heap.size U33 v)=>rp1 v (Below.more bU h);replace rh0:=fun v (h:Below U33.heap.size U33 v)=>rh0 v (Below.more bU h);replace rh1:=fun v (h:Below U33.heap.size U33 v)=>rh1 v (Below.more bU h);replace Lx:=zh (Lx.out.below bU);replace Ly:=zh (Ly.out.below bU);replace Lz:=zh (Lz.out.below bU);replace Lu:=zh (Lu.out.below bU);replace Lp:=zh (Lp.out.below bU);replace Lv:=zh (Lv.out.below bU);replace Lh:=zh (Lh.out.below bU);replace Lt:=zh (Lt.out.below bU);replace BW:=Below.more BW bU;replace HG:=zh (HB.out.below HG.out bU);have Ll:=zh hll;clear hll;clear bU;have b33:=Below.refl U33.heap.size U33;go_wp2_with fail;refine(eval_pla HB.out HL.out (by decide) (by decide) (by decide) (by decide) VL.out hcl (Ll.out.below b33) (HB.out.below HG.out b33)).mono ?_;rintro e w34 ⟨rfl,b⟩;have b34:=Below.more b33 b;clear b;have ba:=fun x=>Below.alloc b34 (Below.size b34) x;have bb:=fun x y=>Below.alloc (Below.alloc b34 (Below.size b34) x) (Below.size (Below.alloc b34 (Below.size b34) x)) y;go_wp2_with fail;obtain⟨U35,hU,bU,s35,rl0,rl1⟩:=lay b34 (.string ⟨(rd Qq).1.toArray⟩) (.string ⟨(rd Qq).2.toArray⟩) 28;rw[hU];clear hU ba;replace ra0:=fun v (h:Below U35.heap.size U35 v)=>ra0 v (Below.more bU h);replace ra1:=fun v (h:Below U35.heap.size U35 v)=>ra1 v (Below.more bU h);replace rb0:=fun v (h:Below U35.heap.size U35 v)=>rb0 v (Below.more bU h);replace rb1:=fun v (h:Below U35.heap.size U35 v)=>rb1 v (Below.more bU h);replace rc0:=fun v (h:Below U35.heap.size U35 v)=>rc0 v (Below.more bU h)
  replace rc1:=fun v (h:Below U35.heap.size U35 v)=>rc1 v (Below.more bU h);replace rp0:=fun v (h:Below U35.heap.size U35 v)=>rp0 v (Below.more bU h);replace rp1:=fun v (h:Below U35.heap.size U35 v)=>rp1 v (Below.more bU h);replace rh0:=fun v (h:Below U35.heap.size U35 v)=>rh0 v (Below.more bU h);replace rh1:=fun v (h:Below U35.heap.size U35 v)=>rh1 v (Below.more bU h);replace Lx:=zh (Lx.out.below bU);replace Ly:=zh (Ly.out.below bU);replace Lz:=zh (Lz.out.below bU);replace Lu:=zh (Lu.out.below bU);replace Lp:=zh (Lp.out.below bU);replace Lv:=zh (Lv.out.below bU);replace Lh:=zh (Lh.out.below bU);replace Lt:=zh (Lt.out.below bU);replace Ll:=zh (Ll.out.below bU);replace BW:=Below.more BW bU;replace HG:=zh (HB.out.below HG.out bU);clear bU;have b35:=Below.refl U35.heap.size U35;clear bb;rw[s35];clear s35;obtain⟨Uw,hU,bw,hzw⟩:∃V,U35.alloc (.cells #[.string ⟨(rd Z).1.toArray⟩,.string ⟨(rd Z).2.toArray⟩] 28)=V∧Below U35.heap.size U35 V∧Zc U35.heap.size (.string ⟨(rd Z).1.toArray⟩) (.string ⟨(rd Z).2.toArray⟩) V:=⟨_,rfl,Below.alloc (Below.refl _ _) (Nat.le_refl _) _,zc_new _ _ _ _⟩;rw[hU];clear hU;refine(CS.out _).mono ?_;rintro e ws ⟨rfl,b⟩;have hz1:=hzw.below b;have bs:=Below.more bw b;have z0:=hz1.c0;have z1:=hz1.c1;have z2:=hz1.f0;have z3:=hz1.f1
  clear hzw b bw;by_cases h0:0<sx
  ·obtain rfl:Y=P:=by have:=HP.out;rw[if_pos h0]at this;exact this
   clear HP;go_wp2_with fail;obtain⟨V,hV,hz2,bV⟩:∃V,(ws.setCell ⟨U35.heap.size,0,none⟩ (.string ⟨(rd Y).1.toArray⟩)).setCell ⟨U35.heap.size,1,none⟩ (.string ⟨(rd Y).2.toArray⟩)=V∧Zc U35.heap.size (.string ⟨(rd Y).1.toArray⟩) (.string ⟨(rd Y).2.toArray⟩) V∧Below U35.heap.size U35 V:=⟨_,rfl,zc_put hz1,put2 bs (Nat.le_refl _) _ _⟩;rw[hV];clear hV hz1 bs z0 z1 z2 z3;replace ra0:=fun v (h:Below V.heap.size V v)=>ra0 v (Below.more bV h);replace ra1:=fun v (h:Below V.heap.size V v)=>ra1 v (Below.more bV h);replace rb0:=fun v (h:Below V.heap.size V v)=>rb0 v (Below.more bV h);replace rb1:=fun v (h:Below V.heap.size V v)=>rb1 v (Below.more bV h);replace rc0:=fun v (h:Below V.heap.size V v)=>rc0 v (Below.more bV h);replace rc1:=fun v (h:Below V.heap.size V v)=>rc1 v (Below.more bV h);replace rp0:=fun v (h:Below V.heap.size V v)=>rp0 v (Below.more bV h);replace rp1:=fun v (h:Below V.heap.size V v)=>rp1 v (Below.more bV h);replace rh0:=fun v (h:Below V.heap.size V v)=>rh0 v (Below.more bV h);replace rh1:=fun v (h:Below V.heap.size V v)=>rh1 v (Below.more bV h);replace rl0:=fun v (h:Below V.heap.size V v)=>rl0 v (Below.more bV h);replace rl1:=fun v (h:Below V.heap.size V v)=>rl1 v (Below.more bV h);replace Lx:=zh (Lx.out.below bV);replace Ly:=zh (Ly.out.below bV);replace Lz:=zh (Lz.out.below bV);replace Lu:=zh (Lu.out.below bV);replace Lp:=zh (Lp.out.below bV);replace Lv:=zh (Lv.out.below bV);replace Lh:=zh (Lh.out.below bV);replace Lt:=zh (Lt.out.below bV);replace Ll:=zh (Ll.out.below bV)
   replace BW:=Below.more BW bV;replace HG:=zh (HB.out.below HG.out bV);have rw0:=fun v (h:Below V.heap.size V v)=>(hz2.below h).c0;have rw1:=fun v (h:Below V.heap.size V v)=>(hz2.below h).c1;clear hz2;clear bV;have b36:=Below.refl V.heap.size V;have hB:=zh (Nat.le_refl V.heap.size);refine wp_region_noPanic ?_;refine wp_region_held_drew (S:=fun w'=>Below V.heap.size V w') (by kernel_rfl) (b36.drew) (fun hH0=>?_);refine wpAnyH_take (i:=0) (v:=?_) rfl (by kernel_rfl) (by kernel_rfl) (by kernel_rfl) (fun _ _ _ h=>h) (Or.inl ⟨by rfl,?_⟩) (by assumption) ?_;rotate_left 1
   ·(intro w hSw;(try dsimp only at hSw);go_simp<;>(with_reducible rfl))
   try simp only[Act.put,qA,qB,qC,qD,qE,qF]
   refine wpAnyH_take (i:=1) (v:=?_) rfl (by kernel_rfl) (by kernel_rfl) (by kernel_rfl) (fun _ _ _ h=>h) (Or.inl ⟨by rfl,?_⟩) (by assumption) ?_;rotate_left 1
   ·(intro w hSw;(try dsimp only at hSw);go_simp<;>(with_reducible rfl))
   try simp only[Act.put,qA,qB,qC,qD,qE,qF]
   refine wpAnyH_take (i:=2) (v:=?_) rfl (by kernel_rfl) (by kernel_rfl) (by kernel_rfl) (fun _ _ _ h=>h) (Or.inl ⟨by rfl,?_⟩) (by assumption) ?_;rotate_left 1
   ·(intro w hSw;(try dsimp only at hSw);go_simp<;>(with_reducible rfl))
   try simp only[Act.put,qA,qB,qC,qD,qE,qF]
   refine wpAnyH_take (i:=3) (v:=?_) rfl (by kernel_rfl) (by kernel_rfl) (by kernel_rfl) (fun _ _ _ h=>h) (Or.inl ⟨by rfl,?_⟩) (by assumption) ?_;rotate_left 1
   ·(intro w hSw;(try dsimp only at hSw);go_simp<;>(with_reducible rfl))
   try simp only[Act.put,qA,qB,qC,qD,qE,qF]
   refine wpAnyH_take (i:=4) (v:=?_) rfl (by kernel_rfl) (by kernel_rfl) (by kernel_rfl) (fun _ _ _ h=>h) (Or.inl ⟨by rfl,?_⟩) (by assumption) ?_;rotate_left 1
   ·(intro w hSw;(try dsimp only at hSw);go_simp<;>(with_reducible rfl))
   try simp only[Act.put,qA,qB,qC,qD,qE,qF]
   refine wpAnyH_take (i:=5) (v:=?_) rfl (by kernel_rfl) (by kernel_rfl) (by kernel_rfl) (fun _ _ _ h=>h) (Or.inl ⟨by rfl,?_⟩) (by assumption) ?_;rotate_left 1
   ·(intro w hSw;(try dsimp only at hSw);go_simp<;>(with_reducible rfl))
   try simp only[Act.put,qA,qB,qC,qD,qE,qF]
   refine wpAnyH_take (i:=6) (v:=?_) rfl (by kernel_rfl) (by kernel_rfl) (by kernel_rfl) (fun _ _ _ h=>h) (Or.inl ⟨by rfl,?_⟩) (by assumption) ?_;rotate_left 1
   ·(intro w hSw;(try dsimp only at hSw);go_simp<;>(with_reducible rfl))
   try simp only[Act.put,qA,qB,qC,qD,qE,qF]
   refine wpAnyH_take (i:=7) (v:=?_) rfl (by kernel_rfl) (by kernel_rfl) (by kernel_rfl) (fun _ _ _ h=>h) (Or.inl ⟨by rfl,?_⟩) (by assumption) ?_;rotate_left 1
   ·(intro w hSw;(try dsimp only at hSw);go_simp<;>(with_reducible rfl))
   try simp only[Act.put,qA,qB,qC,qD,qE,qF]
   refine wpAnyH_take (i:=8) (v:=?_) rfl (by kernel_rfl) (by kernel_rfl) (by kernel_rfl) (fun _ _ _ h=>h) (Or.inl ⟨by rfl,?_⟩) (by assumption) ?_;rotate_left 1
   ·(intro w hSw;(try dsimp only at hSw);go_simp<;>(with_reducible rfl))
   try simp only[Act.put,qA,qB,qC,qD,qE,qF]
   refine wpAnyH_take (i:=9) (v:=?_) rfl (by kernel_rfl) (by kernel_rfl) (by kernel_rfl) (fun _ _ _ h=>h) (Or.inl ⟨by rfl,?_⟩) (by assumption) ?_;rotate_left 1
   ·(intro w hSw;(try dsimp only at hSw);go_simp<;>(with_reducible rfl))
   try simp only[Act.put,qA,qB,qC,qD,qE,qF]
   refine wpAnyH_take (i:=10) (v:=?_) rfl (by kernel_rfl) (by kernel_rfl) (by kernel_rfl) (fun _ _ _ h=>h) (Or.inl ⟨by rfl,?_⟩) (by assumption) ?_;rotate_left 1
   ·(intro w hSw;(try dsimp only at hSw);go_simp<;>(with_reducible rfl))
   try simp only[Act.put,qA,qB,qC,qD,qE,qF]
   refine wpAnyH_take (i:=11) (v:=?_) rfl (by kernel_rfl) (by kernel_rfl) (by kernel_rfl) (fun _ _ _ h=>h) (Or.inl ⟨by rfl,?_⟩) (by assumption) ?_;rotate_left 1
   ·(intro w hSw;(try dsimp only at hSw);go_simp<;>(with_reducible rfl))
   try simp only[Act.put,qA,qB,qC,qD,qE,qF]
   refine wpAnyH_take (i:=12) (v:=?_) rfl (by kernel_rfl) (by kernel_rfl) (by kernel_rfl) (fun _ _ _ h=>h) (Or.inl ⟨by rfl,?_⟩) (by assumption) ?_;rotate_left 1
   ·(intro w hSw;(try dsimp only at hSw);go_simp<;>(with_reducible rfl))
   try simp only[Act.put,qA,qB,qC,qD,qE,qF]
   refine wpAnyH_take (i:=13) (v:=?_) rfl (by kernel_rfl) (by kernel_rfl) (by kernel_rfl) (fun _ _ _ h=>h) (Or.inl ⟨by rfl,?_⟩) (by assumption) ?_;rotate_left 1
   ·(intro w hSw;(try dsimp only at hSw);go_simp<;>(with_reducible rfl))
   try simp only[Act.put,qA,qB,qC,qD,qE,qF]
   refine wpAnyH_take (i:=14) (v:=?_) rfl (by kernel_rfl) (by kernel_rfl) (by kernel_rfl) (fun _ _ _ h=>h) (Or.inl ⟨by rfl,?_⟩) (by assumption) ?_;rotate_left 1
   ·(intro w hSw;(try dsimp only at hSw);go_simp<;>(with_reducible rfl))
   try simp only[Act.put,qA,qB,qC,qD,qE,qF]
   refine wpAnyH_take (i:=15) (v:=?_) rfl (by kernel_rfl) (by kernel_rfl) (by kernel_rfl) (fun _ _ _ h=>h) (Or.inl ⟨by rfl,?_⟩) (by assumption) ?_;rotate_left 1
   ·(intro w hSw;(try dsimp only at hSw);go_simp<;>(with_reducible rfl))
   try simp only[Act.put,qA,qB,qC,qD,qE,qF]
   refine wpAnyH_take (i:=16) (v:=?_) rfl (by kernel_rfl) (by kernel_rfl) (by kernel_rfl) (fun _ _ _ h=>h) (Or.inl ⟨by rfl,?_⟩) (by assumption) ?_;rotate_left 1
   ·(intro w hSw;(try dsimp only at hSw);go_simp<;>(with_reducible rfl))
   try simp only[Act.put,qA,qB,qC,qD,qE,qF]
   refine wpAnyH_take (i:=17) (v:=?_) rfl (by kernel_rfl) (by kernel_rfl) (by kernel_rfl) (fun _ _ _ h=>h) (Or.inl ⟨by rfl,?_⟩) (by assumption) ?_;rotate_left 1
   ·(intro w hSw;(try dsimp only at hSw);go_simp<;>(with_reducible rfl))
   try simp only[Act.put,qA,qB,qC,qD,qE,qF]
   refine wpAnyH_ready (rs:=[18]) (by kernel_rfl) (by simp) ?_;refine AllReadyH.cons rfl (fun K hK=>?_) AllReadyH.nil
   go_simp
   refine(held (W:=V) hB.out (C1.out _) (by assumption)).mono ?_;rintro e x1 ⟨rfl,hb,hw⟩
   (try go_wp2_with fail)
   refine hK.out _ _ hw (fun hH1=>?_);clear hK hH0 hb hw
   try simp only[Act.put,qA,qB,qC,qD,qE,qF]
   refine wpAnyH_take (i:=19) (v:=?_) rfl (by kernel_rfl) (by kernel_rfl) (by kernel_rfl) (fun _ _ _ h=>h) (Or.inl ⟨by rfl,?_⟩) (by assumption) ?_;rotate_left 1
   ·(intro w hSw;(try dsimp only at hSw);go_simp<;>(with_reducible rfl))
   try simp only[Act.put,qA,qB,qC,qD,qE,qF]
   refine wpAnyH_take (i:=20) (v:=?_) rfl (by kernel_rfl) (by kernel_rfl) (by kernel_rfl) (fun _ _ _ h=>h) (Or.inl ⟨by rfl,?_⟩) (by assumption) ?_;rotate_left 1
   ·(intro w hSw;(try dsimp only at hSw);go_simp<;>(with_reducible rfl))
   try simp only[Act.put,qA,qB,qC,qD,qE,qF]
   refine wpAnyH_take (i:=21) (v:=?_) rfl (by kernel_rfl) (by kernel_rfl) (by kernel_rfl) (fun _ _ _ h=>h) (Or.inl ⟨by rfl,?_⟩) (by assumption) ?_;rotate_left 1
   ·(intro w hSw;(try dsimp only at hSw);go_simp<;>(with_reducible rfl))
   try simp only[Act.put,qA,qB,qC,qD,qE,qF]
   refine wpAnyH_take (i:=22) (v:=?_) rfl (by kernel_rfl) (by kernel_rfl) (by kernel_rfl) (fun _ _ _ h=>h) (Or.inl ⟨by rfl,?_⟩) (by assumption) ?_;rotate_left 1
   ·(intro w hSw;(try dsimp only at hSw);go_simp<;>(with_reducible rfl))
   try simp only[Act.put,qA,qB,qC,qD,qE,qF]
   refine wpAnyH_take (i:=23) (v:=?_) rfl (by kernel_rfl) (by kernel_rfl) (by kernel_rfl) (fun _ _ _ h=>h) (Or.inl ⟨by rfl,?_⟩) (by assumption) ?_;rotate_left 1
   ·(intro w hSw;(try dsimp only at hSw);go_simp<;>(with_reducible rfl))
   try simp only[Act.put,qA,qB,qC,qD,qE,qF]
   refine wpAnyH_ready (rs:=[24]) (by kernel_rfl) (by simp) ?_;refine AllReadyH.cons rfl (fun K hK=>?_) AllReadyH.nil
   go_simp
   refine(held (W:=V) hB.out (C2.out _) (by assumption)).mono ?_;rintro e x2 ⟨rfl,hb,hw⟩
   (try go_wp2_with fail)
   refine hK.out _ _ hw (fun hH2=>?_);clear hK hH1 hb hw
   try simp only[Act.put,qA,qB,qC,qD,qE,qF]
   refine wpAnyH_take (i:=25) (v:=?_) rfl (by kernel_rfl) (by kernel_rfl) (by kernel_rfl) (fun _ _ _ h=>h) (Or.inl ⟨by rfl,?_⟩) (by assumption) ?_;rotate_left 1
   ·(intro w hSw;(try dsimp only at hSw);go_simp<;>(with_reducible rfl))
   try simp only[Act.put,qA,qB,qC,qD,qE,qF]
   refine wpAnyH_take (i:=26) (v:=?_) rfl (by kernel_rfl) (by kernel_rfl) (by kernel_rfl) (fun _ _ _ h=>h) (Or.inl ⟨by rfl,?_⟩) (by assumption) ?_;rotate_left 1
   ·(intro w hSw;(try dsimp only at hSw);go_simp<;>(with_reducible rfl))
   try simp only[Act.put,qA,qB,qC,qD,qE,qF]
   refine wpAnyH_take (i:=27) (v:=?_) rfl (by kernel_rfl) (by kernel_rfl) (by kernel_rfl) (fun _ _ _ h=>h) (Or.inl ⟨by rfl,?_⟩) (by assumption) ?_;rotate_left 1
   ·(intro w hSw;(try dsimp only at hSw);go_simp<;>(with_reducible rfl))
   try simp only[Act.put,qA,qB,qC,qD,qE,qF]
   refine wpAnyH_take (i:=28) (v:=?_) rfl (by kernel_rfl) (by kernel_rfl) (by kernel_rfl) (fun _ _ _ h=>h) (Or.inl ⟨by rfl,?_⟩) (by assumption) ?_;rotate_left 1
   ·(intro w hSw;(try dsimp only at hSw);go_simp<;>(with_reducible rfl))
   try simp only[Act.put,qA,qB,qC,qD,qE,qF]
   refine wpAnyH_take (i:=29) (v:=?_) rfl (by kernel_rfl) (by kernel_rfl) (by kernel_rfl) (fun _ _ _ h=>h) (Or.inl ⟨by rfl,?_⟩) (by assumption) ?_;rotate_left 1
   ·(intro w hSw;(try dsimp only at hSw);go_simp<;>(with_reducible rfl))
   try simp only[Act.put,qA,qB,qC,qD,qE,qF]
   refine wpAnyH_ready (rs:=[30]) (by kernel_rfl) (by simp) ?_;refine AllReadyH.cons rfl (fun K hK=>?_) AllReadyH.nil
   go_simp
   refine(held (W:=V) hB.out (C3.out _) (by assumption)).mono ?_;rintro e x3 ⟨rfl,hb,hw⟩
   (try go_wp2_with fail)
   refine hK.out _ _ hw (fun hH3=>?_);clear hK hH2 hb hw
   try simp only[Act.put,qA,qB,qC,qD,qE,qF]
   refine wpAnyH_take (i:=31) (v:=?_) rfl (by kernel_rfl) (by kernel_rfl) (by kernel_rfl) (fun _ _ _ h=>h) (Or.inl ⟨by rfl,?_⟩) (by assumption) ?_;rotate_left 1
   ·(intro w hSw;(try dsimp only at hSw);go_simp<;>(with_reducible rfl))
   try simp only[Act.put,qA,qB,qC,qD,qE,qF]
   refine wpAnyH_take (i:=32) (v:=?_) rfl (by kernel_rfl) (by kernel_rfl) (by kernel_rfl) (fun _ _ _ h=>h) (Or.inl ⟨by rfl,?_⟩) (by assumption) ?_;rotate_left 1
   ·(intro w hSw;(try dsimp only at hSw);go_simp<;>(with_reducible rfl))
   try simp only[Act.put,qA,qB,qC,qD,qE,qF]
   refine wpAnyH_take (i:=33) (v:=?_) rfl (by kernel_rfl) (by kernel_rfl) (by kernel_rfl) (fun _ _ _ h=>h) (Or.inl ⟨by rfl,?_⟩) (by assumption) ?_;rotate_left 1
   ·(intro w hSw;(try dsimp only at hSw);go_simp<;>(with_reducible rfl))
   try simp only[Act.put,qA,qB,qC,qD,qE,qF]
   refine wpAnyH_take (i:=34) (v:=?_) rfl (by kernel_rfl) (by kernel_rfl) (by kernel_rfl) (fun _ _ _ h=>h) (Or.inl ⟨by rfl,?_⟩) (by assumption) ?_;rotate_left 1
   ·(intro w hSw;(try dsimp only at hSw);go_simp<;>(with_reducible rfl))
   try simp only[Act.put,qA,qB,qC,qD,qE,qF]
   refine wpAnyH_take (i:=35) (v:=?_) rfl (by kernel_rfl) (by kernel_rfl) (by kernel_rfl) (fun _ _ _ h=>h) (Or.inl ⟨by rfl,?_⟩) (by assumption) ?_;rotate_left 1
   ·(intro w hSw;(try dsimp only at hSw);go_simp<;>(with_reducible rfl))
   try simp only[Act.put,qA,qB,qC,qD,qE,qF]
   refine wpAnyH_ready (rs:=[36]) (by kernel_rfl) (by simp) ?_;refine AllReadyH.cons rfl (fun K hK=>?_) AllReadyH.nil
   go_simp
   refine(held (W:=V) hB.out (C4.out _) (by assumption)).mono ?_;rintro e x4 ⟨rfl,hb,hw⟩
   (try go_wp2_with fail)
   refine hK.out _ _ hw (fun hH4=>?_);clear hK hH3 hb hw
   try simp only[Act.put,qA,qB,qC,qD,qE,qF]
   refine wpAnyH_take (i:=37) (v:=?_) rfl (by kernel_rfl) (by kernel_rfl) (by kernel_rfl) (fun _ _ _ h=>h) (Or.inl ⟨by rfl,?_⟩) (by assumption) ?_;rotate_left 1
   ·(intro w hSw;(try dsimp only at hSw);go_simp<;>(with_reducible rfl))
   try simp only[Act.put,qA,qB,qC,qD,qE,qF]
   refine wpAnyH_take (i:=38) (v:=?_) rfl (by kernel_rfl) (by kernel_rfl) (by kernel_rfl) (fun _ _ _ h=>h) (Or.inl ⟨by rfl,?_⟩) (by assumption) ?_;rotate_left 1
   ·(intro w hSw;(try dsimp only at hSw);go_simp<;>(with_reducible rfl))
   try simp only[Act.put,qA,qB,qC,qD,qE,qF]
   refine wpAnyH_take (i:=39) (v:=?_) rfl (by kernel_rfl) (by kernel_rfl) (by kernel_rfl) (fun _ _ _ h=>h) (Or.inl ⟨by rfl,?_⟩) (by assumption) ?_;rotate_left 1
   ·(intro w hSw;(try dsimp only at hSw);go_simp<;>(with_reducible rfl))
   try simp only[Act.put,qA,qB,qC,qD,qE,qF]
   refine wpAnyH_take (i:=40) (v:=?_) rfl (by kernel_rfl) (by kernel_rfl) (by kernel_rfl) (fun _ _ _ h=>h) (Or.inl ⟨by rfl,?_⟩) (by assumption) ?_;rotate_left 1
   ·(intro w hSw;(try dsimp only at hSw);go_simp<;>(with_reducible rfl))
   try simp only[Act.put,qA,qB,qC,qD,qE,qF]
   refine wpAnyH_take (i:=41) (v:=?_) rfl (by kernel_rfl) (by kernel_rfl) (by kernel_rfl) (fun _ _ _ h=>h) (Or.inl ⟨by rfl,?_⟩) (by assumption) ?_;rotate_left 1
   ·(intro w hSw;(try dsimp only at hSw);go_simp<;>(with_reducible rfl))
   try simp only[Act.put,qA,qB,qC,qD,qE,qF]
   refine wpAnyH_take (i:=43) (v:=?_) rfl (by kernel_rfl) (by kernel_rfl) (by kernel_rfl) (fun _ _ _ h=>h) (Or.inl ⟨by rfl,?_⟩) (by assumption) ?_;rotate_left 1
   ·(intro w hSw;(try dsimp only at hSw);go_simp<;>(with_reducible rfl))
   try simp only[Act.put,qA,qB,qC,qD,qE,qF]
   refine wpAnyH_take (i:=44) (v:=?_) rfl (by kernel_rfl) (by kernel_rfl) (by kernel_rfl) (fun _ _ _ h=>h) (Or.inl ⟨by rfl,?_⟩) (by assumption) ?_;rotate_left 1
   ·(intro w hSw;(try dsimp only at hSw);go_simp<;>(with_reducible rfl))
   try simp only[Act.put,qA,qB,qC,qD,qE,qF]
   refine wpAnyH_ready (rs:=[42]) (by kernel_rfl) (by simp) ?_;refine AllReadyH.cons rfl (fun K hK=>?_) AllReadyH.nil
   go_simp
   refine(held (W:=V) hB.out (C5.out _) (by assumption)).mono ?_;rintro e x5 ⟨rfl,hb,hw⟩
   (try go_wp2_with fail)
   refine hK.out _ _ hw (fun hH5=>?_);clear hK hH4 hb hw
   try simp only[Act.put,qA,qB,qC,qD,qE,qF]
   refine wpAnyH_ready (rs:=[45]) (by kernel_rfl) (by simp) ?_;refine AllReadyH.cons rfl (fun K hK=>?_) AllReadyH.nil
   go_simp
   refine(held (W:=V) hB.out (C6.out _) (by assumption)).mono ?_;rintro e x6 ⟨rfl,hb,hw⟩
   (try go_wp2_with fail)
   refine hK.out _ _ hw (fun hH6=>?_);clear hK hH5 hb hw
   try simp only[Act.put,qA,qB,qC,qD,qE,qF]
   refine wpAnyH_take (i:=46) (v:=?_) rfl (by kernel_rfl) (by kernel_rfl) (by kernel_rfl) (fun _ _ _ h=>h) (Or.inl ⟨by rfl,?_⟩) (by assumption) ?_;rotate_left 1
   ·(intro w hSw;(try dsimp only at hSw);go_simp<;>(with_reducible rfl))
   try simp only[Act.put,qA,qB,qC,qD,qE,qF]
   refine wpAnyH_take (i:=47) (v:=?_) rfl (by kernel_rfl) (by kernel_rfl) (by kernel_rfl) (fun _ _ _ h=>h) (Or.inl ⟨by rfl,?_⟩) (by assumption) ?_;rotate_left 1
   ·(intro w hSw;(try dsimp only at hSw);go_simp<;>(with_reducible rfl))
   try simp only[Act.put,qA,qB,qC,qD,qE,qF]
   refine wpAnyH_take (i:=48) (v:=?_) rfl (by kernel_rfl) (by kernel_rfl) (by kernel_rfl) (fun _ _ _ h=>h) (Or.inl ⟨by rfl,?_⟩) (by assumption) ?_;rotate_left 1
   ·(intro w hSw;(try dsimp only at hSw);go_simp<;>(with_reducible rfl))
   try simp only[Act.put,qA,qB,qC,qD,qE,qF]
   refine wpAnyH_done (by kernel_rfl) ?_ _;refine NoPanic.normal ?_;have bZ:=hH6;clear hH6;go_wp2_with fail;go_ret;exact⟨ret_bool (by first|rfl|simp),Below.more BW bZ⟩
  ·obtain rfl:Z=P:=by have:=HP.out;rw[if_neg h0]at this;exact this
   clear HP;go_wp2_with fail;obtain⟨V,hV,hz2,bV⟩:∃V,ws=V∧Zc U35.heap.size (.string ⟨(rd Z).1.toArray⟩) (.string ⟨(rd Z).2.toArray⟩) V∧Below U35.heap.size U35 V:=⟨_,rfl,hz1,bs⟩;rw[hV];clear hV hz1 bs z0 z1 z2 z3;replace ra0:=fun v (h:Below V.heap.size V v)=>ra0 v (Below.more bV h);replace ra1:=fun v (h:Below V.heap.size V v)=>ra1 v (Below.more bV h);replace rb0:=fun v (h:Below V.heap.size V v)=>rb0 v (Below.more bV h);replace rb1:=fun v (h:Below V.heap.size V v)=>rb1 v (Below.more bV h);replace rc0:=fun v (h:Below V.heap.size V v)=>rc0 v (Below.more bV h);replace rc1:=fun v (h:Below V.heap.size V v)=>rc1 v (Below.more bV h);replace rp0:=fun v (h:Below V.heap.size V v)=>rp0 v (Below.more bV h);replace rp1:=fun v (h:Below V.heap.size V v)=>rp1 v (Below.more bV h);replace rh0:=fun v (h:Below V.heap.size V v)=>rh0 v (Below.more bV h);replace rh1:=fun v (h:Below V.heap.size V v)=>rh1 v (Below.more bV h);replace rl0:=fun v (h:Below V.heap.size V v)=>rl0 v (Below.more bV h);replace rl1:=fun v (h:Below V.heap.size V v)=>rl1 v (Below.more bV h);replace Lx:=zh (Lx.out.below bV);replace Ly:=zh (Ly.out.below bV);replace Lz:=zh (Lz.out.below bV);replace Lu:=zh (Lu.out.below bV);replace Lp:=zh (Lp.out.below bV);replace Lv:=zh (Lv.out.below bV);replace Lh:=zh (Lh.out.below bV);replace Lt:=zh (Lt.out.below bV);replace Ll:=zh (Ll.out.below bV);replace BW:=Below.more BW bV;replace HG:=zh (HB.out.below HG.out bV);have rw0:=fun v (h:Below V.heap.size V v)=>(hz2.below h).c0;have rw1:=fun v (h:Below V.heap.size V v)=>(hz2.below h).c1
   clear hz2;clear bV;have b36:=Below.refl V.heap.size V;have hB:=zh (Nat.le_refl V.heap.size);refine wp_region_noPanic ?_;refine wp_region_held_drew (S:=fun w'=>Below V.heap.size V w') (by kernel_rfl) (b36.drew) (fun hH0=>?_);refine wpAnyH_take (i:=0) (v:=?_) rfl (by kernel_rfl) (by kernel_rfl) (by kernel_rfl) (fun _ _ _ h=>h) (Or.inl ⟨by rfl,?_⟩) (by assumption) ?_;rotate_left 1
   ·(intro w hSw;(try dsimp only at hSw);go_simp<;>(with_reducible rfl))
   try simp only[Act.put,qA,qB,qC,qD,qE,qF]
   refine wpAnyH_take (i:=1) (v:=?_) rfl (by kernel_rfl) (by kernel_rfl) (by kernel_rfl) (fun _ _ _ h=>h) (Or.inl ⟨by rfl,?_⟩) (by assumption) ?_;rotate_left 1
   ·(intro w hSw;(try dsimp only at hSw);go_simp<;>(with_reducible rfl))
   try simp only[Act.put,qA,qB,qC,qD,qE,qF]
   refine wpAnyH_take (i:=2) (v:=?_) rfl (by kernel_rfl) (by kernel_rfl) (by kernel_rfl) (fun _ _ _ h=>h) (Or.inl ⟨by rfl,?_⟩) (by assumption) ?_;rotate_left 1
   ·(intro w hSw;(try dsimp only at hSw);go_simp<;>(with_reducible rfl))
   try simp only[Act.put,qA,qB,qC,qD,qE,qF]
   refine wpAnyH_take (i:=3) (v:=?_) rfl (by kernel_rfl) (by kernel_rfl) (by kernel_rfl) (fun _ _ _ h=>h) (Or.inl ⟨by rfl,?_⟩) (by assumption) ?_;rotate_left 1
   ·(intro w hSw;(try dsimp only at hSw);go_simp<;>(with_reducible rfl))
   try simp only[Act.put,qA,qB,qC,qD,qE,qF]
   refine wpAnyH_take (i:=4) (v:=?_) rfl (by kernel_rfl) (by kernel_rfl) (by kernel_rfl) (fun _ _ _ h=>h) (Or.inl ⟨by rfl,?_⟩) (by assumption) ?_;rotate_left 1
   ·(intro w hSw;(try dsimp only at hSw);go_simp<;>(with_reducible rfl))
   try simp only[Act.put,qA,qB,qC,qD,qE,qF]
   refine wpAnyH_take (i:=5) (v:=?_) rfl (by kernel_rfl) (by kernel_rfl) (by kernel_rfl) (fun _ _ _ h=>h) (Or.inl ⟨by rfl,?_⟩) (by assumption) ?_;rotate_left 1
   ·(intro w hSw;(try dsimp only at hSw);go_simp<;>(with_reducible rfl))
   try simp only[Act.put,qA,qB,qC,qD,qE,qF]
   refine wpAnyH_take (i:=6) (v:=?_) rfl (by kernel_rfl) (by kernel_rfl) (by kernel_rfl) (fun _ _ _ h=>h) (Or.inl ⟨by rfl,?_⟩) (by assumption) ?_;rotate_left 1
   ·(intro w hSw;(try dsimp only at hSw);go_simp<;>(with_reducible rfl))
   try simp only[Act.put,qA,qB,qC,qD,qE,qF]
   refine wpAnyH_take (i:=7) (v:=?_) rfl (by kernel_rfl) (by kernel_rfl) (by kernel_rfl) (fun _ _ _ h=>h) (Or.inl ⟨by rfl,?_⟩) (by assumption) ?_;rotate_left 1
   ·(intro w hSw;(try dsimp only at hSw);go_simp<;>(with_reducible rfl))
   try simp only[Act.put,qA,qB,qC,qD,qE,qF]
   refine wpAnyH_take (i:=8) (v:=?_) rfl (by kernel_rfl) (by kernel_rfl) (by kernel_rfl) (fun _ _ _ h=>h) (Or.inl ⟨by rfl,?_⟩) (by assumption) ?_;rotate_left 1
   ·(intro w hSw;(try dsimp only at hSw);go_simp<;>(with_reducible rfl))
   try simp only[Act.put,qA,qB,qC,qD,qE,qF]
   refine wpAnyH_take (i:=9) (v:=?_) rfl (by kernel_rfl) (by kernel_rfl) (by kernel_rfl) (fun _ _ _ h=>h) (Or.inl ⟨by rfl,?_⟩) (by assumption) ?_;rotate_left 1
   ·(intro w hSw;(try dsimp only at hSw);go_simp<;>(with_reducible rfl))
   try simp only[Act.put,qA,qB,qC,qD,qE,qF]
   refine wpAnyH_take (i:=10) (v:=?_) rfl (by kernel_rfl) (by kernel_rfl) (by kernel_rfl) (fun _ _ _ h=>h) (Or.inl ⟨by rfl,?_⟩) (by assumption) ?_;rotate_left 1
   ·(intro w hSw;(try dsimp only at hSw);go_simp<;>(with_reducible rfl))
   try simp only[Act.put,qA,qB,qC,qD,qE,qF]
   refine wpAnyH_take (i:=11) (v:=?_) rfl (by kernel_rfl) (by kernel_rfl) (by kernel_rfl) (fun _ _ _ h=>h) (Or.inl ⟨by rfl,?_⟩) (by assumption) ?_;rotate_left 1
   ·(intro w hSw;(try dsimp only at hSw);go_simp<;>(with_reducible rfl))
   try simp only[Act.put,qA,qB,qC,qD,qE,qF]
   refine wpAnyH_take (i:=12) (v:=?_) rfl (by kernel_rfl) (by kernel_rfl) (by kernel_rfl) (fun _ _ _ h=>h) (Or.inl ⟨by rfl,?_⟩) (by assumption) ?_;rotate_left 1
   ·(intro w hSw;(try dsimp only at hSw);go_simp<;>(with_reducible rfl))
   try simp only[Act.put,qA,qB,qC,qD,qE,qF]
   refine wpAnyH_take (i:=13) (v:=?_) rfl (by kernel_rfl) (by kernel_rfl) (by kernel_rfl) (fun _ _ _ h=>h) (Or.inl ⟨by rfl,?_⟩) (by assumption) ?_;rotate_left 1
   ·(intro w hSw;(try dsimp only at hSw);go_simp<;>(with_reducible rfl))
   try simp only[Act.put,qA,qB,qC,qD,qE,qF]
   refine wpAnyH_take (i:=14) (v:=?_) rfl (by kernel_rfl) (by kernel_rfl) (by kernel_rfl) (fun _ _ _ h=>h) (Or.inl ⟨by rfl,?_⟩) (by assumption) ?_;rotate_left 1
   ·(intro w hSw;(try dsimp only at hSw);go_simp<;>(with_reducible rfl))
   try simp only[Act.put,qA,qB,qC,qD,qE,qF]
   refine wpAnyH_take (i:=15) (v:=?_) rfl (by kernel_rfl) (by kernel_rfl) (by kernel_rfl) (fun _ _ _ h=>h) (Or.inl ⟨by rfl,?_⟩) (by assumption) ?_;rotate_left 1
   ·(intro w hSw;(try dsimp only at hSw);go_simp<;>(with_reducible rfl))
   try simp only[Act.put,qA,qB,qC,qD,qE,qF]
   refine wpAnyH_take (i:=16) (v:=?_) rfl (by kernel_rfl) (by kernel_rfl) (by kernel_rfl) (fun _ _ _ h=>h) (Or.inl ⟨by rfl,?_⟩) (by assumption) ?_;rotate_left 1
   ·(intro w hSw;(try dsimp only at hSw);go_simp<;>(with_reducible rfl))
   try simp only[Act.put,qA,qB,qC,qD,qE,qF]
   refine wpAnyH_take (i:=17) (v:=?_) rfl (by kernel_rfl) (by kernel_rfl) (by kernel_rfl) (fun _ _ _ h=>h) (Or.inl ⟨by rfl,?_⟩) (by assumption) ?_;rotate_left 1
   ·(intro w hSw;(try dsimp only at hSw);go_simp<;>(with_reducible rfl))
   try simp only[Act.put,qA,qB,qC,qD,qE,qF]
   refine wpAnyH_ready (rs:=[18]) (by kernel_rfl) (by simp) ?_;refine AllReadyH.cons rfl (fun K hK=>?_) AllReadyH.nil
   go_simp
   refine(held (W:=V) hB.out (C1.out _) (by assumption)).mono ?_;rintro e x1 ⟨rfl,hb,hw⟩
   (try go_wp2_with fail)
   refine hK.out _ _ hw (fun hH1=>?_);clear hK hH0 hb hw
   try simp only[Act.put,qA,qB,qC,qD,qE,qF]
   refine wpAnyH_take (i:=19) (v:=?_) rfl (by kernel_rfl) (by kernel_rfl) (by kernel_rfl) (fun _ _ _ h=>h) (Or.inl ⟨by rfl,?_⟩) (by assumption) ?_;rotate_left 1
   ·(intro w hSw;(try dsimp only at hSw);go_simp<;>(with_reducible rfl))
   try simp only[Act.put,qA,qB,qC,qD,qE,qF]
   refine wpAnyH_take (i:=20) (v:=?_) rfl (by kernel_rfl) (by kernel_rfl) (by kernel_rfl) (fun _ _ _ h=>h) (Or.inl ⟨by rfl,?_⟩) (by assumption) ?_;rotate_left 1
   ·(intro w hSw;(try dsimp only at hSw);go_simp<;>(with_reducible rfl))
   try simp only[Act.put,qA,qB,qC,qD,qE,qF]
   refine wpAnyH_take (i:=21) (v:=?_) rfl (by kernel_rfl) (by kernel_rfl) (by kernel_rfl) (fun _ _ _ h=>h) (Or.inl ⟨by rfl,?_⟩) (by assumption) ?_;rotate_left 1
   ·(intro w hSw;(try dsimp only at hSw);go_simp<;>(with_reducible rfl))
   try simp only[Act.put,qA,qB,qC,qD,qE,qF]
   refine wpAnyH_take (i:=22) (v:=?_) rfl (by kernel_rfl) (by kernel_rfl) (by kernel_rfl) (fun _ _ _ h=>h) (Or.inl ⟨by rfl,?_⟩) (by assumption) ?_;rotate_left 1
   ·(intro w hSw;(try dsimp only at hSw);go_simp<;>(with_reducible rfl))
   try simp only[Act.put,qA,qB,qC,qD,qE,qF]
   refine wpAnyH_take (i:=23) (v:=?_) rfl (by kernel_rfl) (by kernel_rfl) (by kernel_rfl) (fun _ _ _ h=>h) (Or.inl ⟨by rfl,?_⟩) (by assumption) ?_;rotate_left 1
   ·(intro w hSw;(try dsimp only at hSw);go_simp<;>(with_reducible rfl))
   try simp only[Act.put,qA,qB,qC,qD,qE,qF]
   refine wpAnyH_ready (rs:=[24]) (by kernel_rfl) (by simp) ?_;refine AllReadyH.cons rfl (fun K hK=>?_) AllReadyH.nil
   go_simp
   refine(held (W:=V) hB.out (C2.out _) (by assumption)).mono ?_;rintro e x2 ⟨rfl,hb,hw⟩
   (try go_wp2_with fail)
   refine hK.out _ _ hw (fun hH2=>?_);clear hK hH1 hb hw
   try simp only[Act.put,qA,qB,qC,qD,qE,qF]
   refine wpAnyH_take (i:=25) (v:=?_) rfl (by kernel_rfl) (by kernel_rfl) (by kernel_rfl) (fun _ _ _ h=>h) (Or.inl ⟨by rfl,?_⟩) (by assumption) ?_;rotate_left 1
   ·(intro w hSw;(try dsimp only at hSw);go_simp<;>(with_reducible rfl))
   try simp only[Act.put,qA,qB,qC,qD,qE,qF]
   refine wpAnyH_take (i:=26) (v:=?_) rfl (by kernel_rfl) (by kernel_rfl) (by kernel_rfl) (fun _ _ _ h=>h) (Or.inl ⟨by rfl,?_⟩) (by assumption) ?_;rotate_left 1
   ·(intro w hSw;(try dsimp only at hSw);go_simp<;>(with_reducible rfl))
   try simp only[Act.put,qA,qB,qC,qD,qE,qF]
   refine wpAnyH_take (i:=27) (v:=?_) rfl (by kernel_rfl) (by kernel_rfl) (by kernel_rfl) (fun _ _ _ h=>h) (Or.inl ⟨by rfl,?_⟩) (by assumption) ?_;rotate_left 1
   ·(intro w hSw;(try dsimp only at hSw);go_simp<;>(with_reducible rfl))
   try simp only[Act.put,qA,qB,qC,qD,qE,qF]
   refine wpAnyH_take (i:=28) (v:=?_) rfl (by kernel_rfl) (by kernel_rfl) (by kernel_rfl) (fun _ _ _ h=>h) (Or.inl ⟨by rfl,?_⟩) (by assumption) ?_;rotate_left 1
   ·(intro w hSw;(try dsimp only at hSw);go_simp<;>(with_reducible rfl))
   try simp only[Act.put,qA,qB,qC,qD,qE,qF]
   refine wpAnyH_take (i:=29) (v:=?_) rfl (by kernel_rfl) (by kernel_rfl) (by kernel_rfl) (fun _ _ _ h=>h) (Or.inl ⟨by rfl,?_⟩) (by assumption) ?_;rotate_left 1
   ·(intro w hSw;(try dsimp only at hSw);go_simp<;>(with_reducible rfl))
   try simp only[Act.put,qA,qB,qC,qD,qE,qF]
   refine wpAnyH_ready (rs:=[30]) (by kernel_rfl) (by simp) ?_;refine AllReadyH.cons rfl (fun K hK=>?_) AllReadyH.nil
   go_simp
   refine(held (W:=V) hB.out (C3.out _) (by assumption)).mono ?_;rintro e x3 ⟨rfl,hb,hw⟩
   (try go_wp2_with fail)
   refine hK.out _ _ hw (fun hH3=>?_);clear hK hH2 hb hw
   try simp only[Act.put,qA,qB,qC,qD,qE,qF]
   refine wpAnyH_take (i:=31) (v:=?_) rfl (by kernel_rfl) (by kernel_rfl) (by kernel_rfl) (fun _ _ _ h=>h) (Or.inl ⟨by rfl,?_⟩) (by assumption) ?_;rotate_left 1
   ·(intro w hSw;(try dsimp only at hSw);go_simp<;>(with_reducible rfl))
   try simp only[Act.put,qA,qB,qC,qD,qE,qF]
   refine wpAnyH_take (i:=32) (v:=?_) rfl (by kernel_rfl) (by kernel_rfl) (by kernel_rfl) (fun _ _ _ h=>h) (Or.inl ⟨by rfl,?_⟩) (by assumption) ?_;rotate_left 1
   ·(intro w hSw;(try dsimp only at hSw);go_simp<;>(with_reducible rfl))
   try simp only[Act.put,qA,qB,qC,qD,qE,qF]
   refine wpAnyH_take (i:=33) (v:=?_) rfl (by kernel_rfl) (by kernel_rfl) (by kernel_rfl) (fun _ _ _ h=>h) (Or.inl ⟨by rfl,?_⟩) (by assumption) ?_;rotate_left 1
   ·(intro w hSw;(try dsimp only at hSw);go_simp<;>(with_reducible rfl))
   try simp only[Act.put,qA,qB,qC,qD,qE,qF]
   refine wpAnyH_take (i:=34) (v:=?_) rfl (by kernel_rfl) (by kernel_rfl) (by kernel_rfl) (fun _ _ _ h=>h) (Or.inl ⟨by rfl,?_⟩) (by assumption) ?_;rotate_left 1
   ·(intro w hSw;(try dsimp only at hSw);go_simp<;>(with_reducible rfl))
   try simp only[Act.put,qA,qB,qC,qD,qE,qF]
   refine wpAnyH_take (i:=35) (v:=?_) rfl (by kernel_rfl) (by kernel_rfl) (by kernel_rfl) (fun _ _ _ h=>h) (Or.inl ⟨by rfl,?_⟩) (by assumption) ?_;rotate_left 1
   ·(intro w hSw;(try dsimp only at hSw);go_simp<;>(with_reducible rfl))
   try simp only[Act.put,qA,qB,qC,qD,qE,qF]
   refine wpAnyH_ready (rs:=[36]) (by kernel_rfl) (by simp) ?_;refine AllReadyH.cons rfl (fun K hK=>?_) AllReadyH.nil
   go_simp
   refine(held (W:=V) hB.out (C4.out _) (by assumption)).mono ?_;rintro e x4 ⟨rfl,hb,hw⟩
   (try go_wp2_with fail)
   refine hK.out _ _ hw (fun hH4=>?_);clear hK hH3 hb hw
   try simp only[Act.put,qA,qB,qC,qD,qE,qF]
   refine wpAnyH_take (i:=37) (v:=?_) rfl (by kernel_rfl) (by kernel_rfl) (by kernel_rfl) (fun _ _ _ h=>h) (Or.inl ⟨by rfl,?_⟩) (by assumption) ?_;rotate_left 1
   ·(intro w hSw;(try dsimp only at hSw);go_simp<;>(with_reducible rfl))
   try simp only[Act.put,qA,qB,qC,qD,qE,qF]
   refine wpAnyH_take (i:=38) (v:=?_) rfl (by kernel_rfl) (by kernel_rfl) (by kernel_rfl) (fun _ _ _ h=>h) (Or.inl ⟨by rfl,?_⟩) (by assumption) ?_;rotate_left 1
   ·(intro w hSw;(try dsimp only at hSw);go_simp<;>(with_reducible rfl))
   try simp only[Act.put,qA,qB,qC,qD,qE,qF]
   refine wpAnyH_take (i:=39) (v:=?_) rfl (by kernel_rfl) (by kernel_rfl) (by kernel_rfl) (fun _ _ _ h=>h) (Or.inl ⟨by rfl,?_⟩) (by assumption) ?_;rotate_left 1
   ·(intro w hSw;(try dsimp only at hSw);go_simp<;>(with_reducible rfl))
   try simp only[Act.put,qA,qB,qC,qD,qE,qF]
   refine wpAnyH_take (i:=40) (v:=?_) rfl (by kernel_rfl) (by kernel_rfl) (by kernel_rfl) (fun _ _ _ h=>h) (Or.inl ⟨by rfl,?_⟩) (by assumption) ?_;rotate_left 1
   ·(intro w hSw;(try dsimp only at hSw);go_simp<;>(with_reducible rfl))
   try simp only[Act.put,qA,qB,qC,qD,qE,qF]
   refine wpAnyH_take (i:=41) (v:=?_) rfl (by kernel_rfl) (by kernel_rfl) (by kernel_rfl) (fun _ _ _ h=>h) (Or.inl ⟨by rfl,?_⟩) (by assumption) ?_;rotate_left 1
   ·(intro w hSw;(try dsimp only at hSw);go_simp<;>(with_reducible rfl))
   try simp only[Act.put,qA,qB,qC,qD,qE,qF]
   refine wpAnyH_take (i:=43) (v:=?_) rfl (by kernel_rfl) (by kernel_rfl) (by kernel_rfl) (fun _ _ _ h=>h) (Or.inl ⟨by rfl,?_⟩) (by assumption) ?_;rotate_left 1
   ·(intro w hSw;(try dsimp only at hSw);go_simp<;>(with_reducible rfl))
   try simp only[Act.put,qA,qB,qC,qD,qE,qF]
   refine wpAnyH_take (i:=44) (v:=?_) rfl (by kernel_rfl) (by kernel_rfl) (by kernel_rfl) (fun _ _ _ h=>h) (Or.inl ⟨by rfl,?_⟩) (by assumption) ?_;rotate_left 1
   ·(intro w hSw;(try dsimp only at hSw);go_simp<;>(with_reducible rfl))
   try simp only[Act.put,qA,qB,qC,qD,qE,qF]
   refine wpAnyH_ready (rs:=[42]) (by kernel_rfl) (by simp) ?_;refine AllReadyH.cons rfl (fun K hK=>?_) AllReadyH.nil
   go_simp
   refine(held (W:=V) hB.out (C5.out _) (by assumption)).mono ?_;rintro e x5 ⟨rfl,hb,hw⟩
   (try go_wp2_with fail)
   refine hK.out _ _ hw (fun hH5=>?_);clear hK hH4 hb hw
   try simp only[Act.put,qA,qB,qC,qD,qE,qF]
   refine wpAnyH_ready (rs:=[45]) (by kernel_rfl) (by simp) ?_;refine AllReadyH.cons rfl (fun K hK=>?_) AllReadyH.nil
   go_simp
   refine(held (W:=V) hB.out (C6.out _) (by assumption)).mono ?_;rintro e x6 ⟨rfl,hb,hw⟩
   (try go_wp2_with fail)
   refine hK.out _ _ hw (fun hH6=>?_);clear hK hH5 hb hw
   try simp only[Act.put,qA,qB,qC,qD,qE,qF]
   refine wpAnyH_take (i:=46) (v:=?_) rfl (by kernel_rfl) (by kernel_rfl) (by kernel_rfl) (fun _ _ _ h=>h) (Or.inl ⟨by rfl,?_⟩) (by assumption) ?_;rotate_left 1
   ·(intro w hSw;(try dsimp only at hSw);go_simp<;>(with_reducible rfl))
   try simp only[Act.put,qA,qB,qC,qD,qE,qF]
   refine wpAnyH_take (i:=47) (v:=?_) rfl (by kernel_rfl) (by kernel_rfl) (by kernel_rfl) (fun _ _ _ h=>h) (Or.inl ⟨by rfl,?_⟩) (by assumption) ?_;rotate_left 1
   ·(intro w hSw;(try dsimp only at hSw);go_simp<;>(with_reducible rfl))
   try simp only[Act.put,qA,qB,qC,qD,qE,qF]
   refine wpAnyH_take (i:=48) (v:=?_) rfl (by kernel_rfl) (by kernel_rfl) (by kernel_rfl) (fun _ _ _ h=>h) (Or.inl ⟨by rfl,?_⟩) (by assumption) ?_;rotate_left 1
   ·(intro w hSw;(try dsimp only at hSw);go_simp<;>(with_reducible rfl))
   try simp only[Act.put,qA,qB,qC,qD,qE,qF]
   refine wpAnyH_done (by kernel_rfl) ?_ _;refine NoPanic.normal ?_;have bZ:=hH6;clear hH6;go_wp2_with fail;go_ret;exact⟨ret_bool (by first|rfl|simp),Below.more BW bZ⟩
end Go.Proofs.YtghioekjghmdaaaGreatDoor
