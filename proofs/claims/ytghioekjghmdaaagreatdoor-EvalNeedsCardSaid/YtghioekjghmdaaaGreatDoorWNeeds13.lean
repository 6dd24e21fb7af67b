/- Own work. -/
import Derived.Test.YtghioekjghmdaaaGreatDoorFixE
set_option linter.unusedSimpArgs false
set_option linter.unusedVariables false
set_option maxHeartbeats 4000000
set_option maxRecDepth 100000
namespace Go.Proofs.YtghioekjghmdaaaGreatDoor
open Go.RowKit
open Tm (Nd Tr treeOf checkT plainN avN)
variable {G : World → Prop}
theorem needs13_any(H:EvalC G)(p:Option Addr)(c:Nat)(t:List Nd)(q:Option Addr)(d:Nat)(l:List Fx.Fix)(r:Option Addr)(b:Nat)(m:List Fx.Fix)(w:World)(hct:t.length≤c)(hnt:t.length≤4611686018427387904)(HRt:Hid (∀x∈t,RgN x))(hT:Nds w p t)(hcl:l.length≤d)(hnl:l.length≤4611686018427387904)(hL:Fxs w q l)(hcm:m.length≤b)(hnm:m.length≤4611686018427387904)(hM:Fxs w r m)(hg:G w) :
  Calls Tryz.prog 4 #[.slice p t.length c,.slice q l.length d,.slice r m.length b] w (GiveB w true):=by
 have HB:=zh H;have HG:=zh hg;have Lt:=zh hT;have Ll:=zh hL;have Lm:=zh hM;clear H hg hT hL hM
 go_enter Tryz.func4,Tryz.ntmps4;have BW:=Below.refl w.heap.size w;have b0:=Below.refl w.heap.size w;go_wp2_with fail;refine(fixed13_any HB.out _ HG.out).mono ?_;rintro e w1 ⟨rfl,b⟩;have b1:=Below.more b0 b;clear b;go_wp2_with fail;refine(light_any p c t q d l _ hnt hnl (Lt.out.below b1) (Ll.out.below b1)).mono ?_;rintro e w2 ⟨rfl,b⟩;have b2:=Below.more b1 b;clear b
 cases h1:liT t l with
 | false =>
  go_wp2_with fail;refine(fixed13_any HB.out _ (HB.out.below HG.out b2)).mono ?_;rintro e w9 ⟨rfl,b⟩;have b9:=Below.more b2 b;go_wp2_with fail;go_ret;exact⟨ret_bool rfl,Below.more BW b9⟩
 | true =>
 go_wp2_with fail;refine(light_any p c t r b m _ hnt hnm (Lt.out.below b2) (Lm.out.below b2)).mono ?_;rintro e w3 ⟨rfl,b⟩;have b3:=Below.more b2 b;clear b
 cases h2:liT t m with
 | false =>
  go_wp2_with fail;refine(fixed13_any HB.out _ (HB.out.below HG.out b3)).mono ?_;rintro e w9 ⟨rfl,b⟩;have b9:=Below.more b3 b;go_wp2_with fail;go_ret;exact⟨ret_bool rfl,Below.more BW b9⟩
 | true =>
 have HZ:=zh (li_sz h1 HRt.out);have HZl:=zh (li_szX h1);have HZm:=zh (li_szX h2);have HP1:=zh (li_parts h1);have HP2:=zh (li_parts h2);have H1:=zh h1;have H2:=zh h2;clear h1 h2
 go_wp2_with fail;refine(rfmay_any q d l _ hcl hnl HZl.out (Ll.out.below b3)).mono ?_;rintro e w4 ⟨rfl,b⟩;have b4:=Below.more b3 b;clear b
 cases h3:Fx.mayF l with
 | false =>
  go_wp2_with fail;refine(fixed13_any HB.out _ (HB.out.below HG.out b4)).mono ?_;rintro e w9 ⟨rfl,b⟩;have b9:=Below.more b4 b;go_wp2_with fail;go_ret;exact⟨ret_bool rfl,Below.more BW b9⟩
 | true =>
 go_wp2_with fail;refine(rfmay_any r b m _ hcm hnm HZm.out (Lm.out.below b4)).mono ?_;rintro e w5 ⟨rfl,b⟩;have b5:=Below.more b4 b;clear b
 cases h4:Fx.mayF m with
 | false =>
  go_wp2_with fail;refine(fixed13_any HB.out _ (HB.out.below HG.out b5)).mono ?_;rintro e w9 ⟨rfl,b⟩;have b9:=Below.more b5 b;go_wp2_with fail;go_ret;exact⟨ret_bool rfl,Below.more BW b9⟩
 | true =>
 go_wp2_with fail;refine(rtcheck_any p c t _ (szN_ref HZ.out) (Lt.out.below b5)).mono ?_;rintro e w6 ⟨rfl,b⟩;have b6:=Below.more b5 b;clear b;rcases Tm.check_two t with h5|h5<;>rw[h5]
 rotate_left 1
 ·skip
  go_wp2_with fail;refine(fixed13_any HB.out _ (HB.out.below HG.out b6)).mono ?_;rintro e w9 ⟨rfl,b⟩;have b9:=Below.more b6 b;go_wp2_with fail;go_ret;exact⟨ret_bool rfl,Below.more BW b9⟩
 have HS:=zh (fun hs=>smK_eval h5 h3 h4 hs);have HA:=zh (alK_lack h5 l);have HE:=zh (Ev.eval_none h3 h5);have HG1:=zh (fun a d=>show Fx.getF l (a,d)=Fx.rawF l (a,d) by unfold Fx.getF;rw[h3];rfl);have HG2:=zh (fun a d=>show Fx.getF m (a,d)=Fx.rawF m (a,d) by unfold Fx.getF;rw[h4];rfl);have hNL:(nfs t).length≤3600:=by have:=nfs_len h5;have:=HP1.out.2.2.1;omega
 clear h3 h4 h5;go_wp2_with fail;refine(HB.out.needs p c t _ hct (by have:=HP1.out.2.2.1;omega) HZ.out (Lt.out.below b6) (HB.out.below HG.out b6)).mono ?_;rintro e0 U7 ⟨⟨pn,cn,rfl,hcn,hln⟩,b⟩;have bU:=Below.more b6 b;clear b;replace Lt:=zh (Lt.out.below bU);replace Ll:=zh (Ll.out.below bU);replace Lm:=zh (Lm.out.below bU);replace BW:=Below.more BW bU;replace HG:=zh (HB.out.below HG.out bU);have Ln:=zh hln;clear hln;clear bU;have b7:=Below.refl U7.heap.size U7
 change Hid (Fxs _ _ (nfs t)) at Ln
 change (nfs t).length≤cn at hcn
 rw[show ((Ev.needsK t).map fun k=>(k,(([],[]):Key))).length=(nfs t).length from rfl];generalize hN:nfs t=N at *;clear hN;go_wp2_with fail;have HW0:=zh BW;clear BW
 go_loopw [8,9,10] (fun sv av iv wv=>∃k:Nat,k≤N.length∧iv=.int .i64 k∧sv=.bool (smK l m (N.take k))∧av=.bool (alK l (N.take k))∧Below U7.heap.size U7 wv) (fun _ _ iv _=>N.length-(intOf iv).toNat)
 case atStart=>exact⟨0,Nat.zero_le _,rfl,rfl,rfl,b7⟩
 case round =>
  obtain⟨k,hk,rfl,rfl,rfl,hw⟩:=hrel;by_cases hlt:k<N.length
  ·obtain⟨⟨⟨a,dd⟩,⟨n,e⟩⟩,hx⟩:∃x,N[k]?=some x:=⟨_,List.getElem?_eq_getElem hlt⟩;obtain⟨nb,no,rfl,k0,k1,k2,k3⟩:=fx_rule (Ln.out.below hw) hx;have S1:=zh (smK_next (l:=l) (m:=m) hx);have A1:=zh (alK_next (l:=l) hx)
   have c1:=fun V (h:Below wr.heap.size wr V)=>rfget_any q d l a dd V hcl hnl HZl.out (Ll.out.below (Below.more hw h));have c2:=fun V (h:Below wr.heap.size wr V)=>rfget_any r b m a dd V hcm hnm HZm.out (Lm.out.below (Below.more hw h));rw[HG1.out]at c1;rw[HG2.out]at c2;have HO:=zh (opt_eq (Fx.rawF l (a,dd)) (Fx.rawF m (a,dd)));dsimp only at S1 A1;rw[HO.out]at S1;unfold GiveG at c1 c2;generalize Fx.rawF l (a,dd)=R at *;generalize Fx.rawF m (a,dd)=T at *;generalize R.isSome=z1 at *;generalize T.isSome=z2 at *;generalize optR R=P1 at *;generalize optR T=P2 at *;obtain⟨p1,p2⟩:=P1;obtain⟨q1,q2⟩:=P2;dsimp only at S1 c1 c2;generalize smK l m (N.take k)=s0 at *;generalize alK l (N.take k)=a0 at *;have C1:=zh c1;have C2:=zh c2;have HW:=zh hw;have hlt2:(k:Int)<(N.length:Int):=by omega
   clear hx c1 c2 hw HO k2 k3;have b0:=Below.refl wr.heap.size wr;have hB:=zh (Nat.le_refl wr.heap.size)
   go_upto_region 8 with fail
   go_cut [11,12] from 57 to 71 (fun t1 t2 wx=>(∃pp,t1=.pointer (some ⟨pp,0,none⟩)∧Zc pp (.string ⟨p1.toArray⟩) (.string ⟨p2.toArray⟩) wx)∧t2=.bool z1∧Below wr.heap.size wr wx)
   case first =>
    first|(go_region_held3 (fun w'=>Below wr.heap.size wr w')
     (first|(exact b0.drew)|(with_reducible assumption)|(exact Below.alloc (by with_reducible assumption) (Nat.le_trans hB.out (Below.size (by with_reducible assumption))) _)|(exact put2 (by with_reducible assumption) (Nat.le_refl _) _ _)|(exact put2 (by with_reducible assumption) hB.out _ _)|(exact put2 (by with_reducible assumption) (Nat.le_trans hB.out (Below.size (by with_reducible assumption))) _ _))
     (first|(go_at_call 18;(with_reducible refine(held (W:=wr) hB.out (C1.out _ (by with_reducible assumption)) (by assumption)).mono ?_);rintro e w'' ⟨rfl,hb,hw⟩;(first|(have hz:=zc_made0 hb)|(have hz:=zc_made hb)|skip);(try have hz:=Zc.below (by assumption) hb);(try (have z0:=hz.c0;have z1:=hz.c1;have z2:=hz.f0;have z3:=hz.f1)))))|fail
    all_goals (go_wp2_with fail)
    all_goals (go_meet)
    all_goals (exact⟨⟨_,rfl,(by first|exact zc_new _ _ _ _|exact zc_put (by assumption))⟩,rfl,by with_reducible assumption⟩)
   case rest =>
    obtain⟨⟨pp,rfl,hz⟩,rfl,hcc⟩:=hcut;have rx0:=fun v (h:Below wc.heap.size wc v)=>(hz.below h).c0;have rx1:=fun v (h:Below wc.heap.size wc v)=>(hz.below h).c1;have j0:=fun v (h:Below wc.heap.size wc v)=>k0 v (Below.more hcc h);have j1:=fun v (h:Below wc.heap.size wc v)=>k1 v (Below.more hcc h);have HC:=zh hcc;obtain⟨x,hx⟩:∃x,x=wc:=⟨_,rfl⟩;subst hx;clear hz hcc hB b0 k0 k1;have b0:=Below.refl x.heap.size x;have hB:=zh (Nat.le_refl x.heap.size)
    go_upto_region 9 with fail
    go_cut [13,14] from 72 to 86 (fun t1 t2 wy=>(∃pp,t1=.pointer (some ⟨pp,0,none⟩)∧Zc pp (.string ⟨q1.toArray⟩) (.string ⟨q2.toArray⟩) wy)∧t2=.bool z2∧Below x.heap.size x wy)
    case first =>
     first|(go_region_held3 (fun w'=>Below x.heap.size x w')
      (first|(exact b0.drew)|(with_reducible assumption)|(exact Below.alloc (by with_reducible assumption) (Nat.le_trans hB.out (Below.size (by with_reducible assumption))) _)|(exact put2 (by with_reducible assumption) (Nat.le_refl _) _ _)|(exact put2 (by with_reducible assumption) hB.out _ _)|(exact put2 (by with_reducible assumption) (Nat.le_trans hB.out (Below.size (by with_reducible assumption))) _ _))
      (first|(go_at_call 18;(with_reducible refine(held (W:=x) hB.out (C2.out _ (Below.more HC.out (by with_reducible assumption))) (by assumption)).mono ?_);rintro e w'' ⟨rfl,hb,hw⟩;(first|(have hz:=zc_made0 hb)|(have hz:=zc_made hb)|skip);(try have hz:=Zc.below (by assumption) hb);(try (have z0:=hz.c0;have z1:=hz.c1;have z2:=hz.f0;have z3:=hz.f1)))))|fail
     all_goals (go_wp2_with fail)
     all_goals (go_meet)
     all_goals (exact⟨⟨_,rfl,(by first|exact zc_new _ _ _ _|exact zc_put (by assumption))⟩,rfl,by with_reducible assumption⟩)
    case rest =>
     obtain⟨⟨pq,rfl,hz⟩,rfl,hcc⟩:=hcut;have ry0:=fun v (h:Below wc.heap.size wc v)=>(hz.below h).c0;have ry1:=fun v (h:Below wc.heap.size wc v)=>(hz.below h).c1;replace rx0:=fun v (h:Below wc.heap.size wc v)=>rx0 v (Below.more hcc h);replace rx1:=fun v (h:Below wc.heap.size wc v)=>rx1 v (Below.more hcc h);have HD:=zh (Below.more HW.out (Below.more HC.out hcc));clear hz hcc hB b0 j0 j1 C1 C2 HC;have b0:=Below.refl wc.heap.size wc;have hB:=zh (Nat.le_refl wc.heap.size);generalize hy1:(p1==q1)=B1 at *;generalize hy2:(p2==q2)=B2 at *;generalize hy3:(z1==z2)=B3 at *
     cases s0<;>cases B1<;>cases B2<;>cases a0<;>(
      go_wp2_with fail;go_roundw
      case rel=>exact⟨k+1,hlt,by go_num,by rw[S1.out];simp,by rw[A1.out];simp,Below.more HD.out b0⟩
      case measure=>simp[intOf];omega)
  ·obtain rfl:k=N.length:=by omega
   have BW:=HW0.out;rw[List.take_length];rw[HA.out];clear hk hlt HA HG1 HG2 HW0;replace Lt:=zh (Lt.out.below hw);replace Ll:=zh (Ll.out.below hw);replace Lm:=zh (Lm.out.below hw);replace Ln:=zh (Ln.out.below hw);replace BW:=Below.more BW hw;replace HG:=zh (HB.out.below HG.out hw);clear hw;have b60:=Below.refl wr.heap.size wr;have c1:=fun V (h1:Nds V p t) (h2:Fxs V q l) (g:G V)=>eval_li HB.out hct hcl H1.out HRt.out rfl h1 h2 g;have c2:=fun V (h1:Nds V p t) (h2:Fxs V r m) (g:G V)=>eval_li HB.out hct hcm H2.out HRt.out rfl h1 h2 g;generalize Ev.lackB l t=z at *;generalize Ev.evalE t l=E at *;clear HP1 HP2 HZ HZl HZm H1 H2
   cases hs:smK l m N with
   | true =>
    rw[←HS.out hs]at c2;clear HS hs;obtain⟨⟨x1,x2⟩,xe⟩:=E;have C1:=zh c1;have C2:=zh c2
    clear c1 c2;dsimp only at HE;have HQ:Hid (xe=130∧z=true∨(xe=130)=False∧z=false):=zh (by have:=HE.out;cases z with|true=>exact .inl ⟨of_decide_eq_true this,rfl⟩|false=>exact .inr ⟨eq_false (of_decide_eq_false this),rfl⟩);clear HE;go_wp2_with fail;refine(C1.out _ (Lt.out.below b60) (Ll.out.below b60) (HB.out.below HG.out b60)).mono ?_;rintro e w61 ⟨rfl,b⟩;have b61:=Below.more b60 b;clear b;have ba:=fun x=>Below.alloc b61 (Below.size b61) x;go_wp2_with fail;obtain⟨U62,hU,bU,s62,rx0,rx1⟩:=lay b61 (.string ⟨x1.toArray⟩) (.string ⟨x2.toArray⟩) 28;rw[hU];clear hU ba s62;replace Lt:=zh (Lt.out.below bU);replace Ll:=zh (Ll.out.below bU);replace Lm:=zh (Lm.out.below bU);replace Ln:=zh (Ln.out.below bU);replace BW:=Below.more BW bU;replace HG:=zh (HB.out.below HG.out bU);clear bU;have b62:=Below.refl U62.heap.size U62;go_wp2_with fail;refine(C2.out _ (Lt.out.below b62) (Lm.out.below b62) (HB.out.below HG.out b62)).mono ?_;rintro e w63 ⟨rfl,b⟩;have b63:=Below.more b62 b;clear b;rcases HQ.out with ⟨rfl,rfl⟩|⟨hq,rfl⟩<;>(
     have ba:=fun x=>Below.alloc b63 (Below.size b63) x;go_wp2_with fail;obtain⟨U64,hU,bU,s64,ry0,ry1⟩:=lay b63 (.string ⟨x1.toArray⟩) (.string ⟨x2.toArray⟩) 28;rw[hU];clear hU ba s64;replace rx0:=fun v (h:Below U64.heap.size U64 v)=>rx0 v (Below.more bU h);replace rx1:=fun v (h:Below U64.heap.size U64 v)=>rx1 v (Below.more bU h);replace Lt:=zh (Lt.out.below bU);replace Ll:=zh (Ll.out.below bU);replace Lm:=zh (Lm.out.below bU);replace Ln:=zh (Ln.out.below bU);replace BW:=Below.more BW bU;replace HG:=zh (HB.out.below HG.out bU);clear bU;have b64:=Below.refl U64.heap.size U64
     (try go_wp2_with fail)
     go_ret;exact⟨ret_bool (by simp[*]),Below.more BW b64⟩)
   | false =>
    generalize Ev.evalE t m=F at *;clear HS hs;obtain⟨⟨x1,x2⟩,xe⟩:=E;obtain⟨⟨y1,y2⟩,ye⟩:=F;have C1:=zh c1;have C2:=zh c2
    clear c1 c2;dsimp only at HE;have HQ:Hid (xe=130∧z=true∨(xe=130)=False∧z=false):=zh (by have:=HE.out;cases z with|true=>exact .inl ⟨of_decide_eq_true this,rfl⟩|false=>exact .inr ⟨eq_false (of_decide_eq_false this),rfl⟩);clear HE;go_wp2_with fail;refine(C1.out _ (Lt.out.below b60) (Ll.out.below b60) (HB.out.below HG.out b60)).mono ?_;rintro e w61 ⟨rfl,b⟩;have b61:=Below.more b60 b;clear b;have ba:=fun x=>Below.alloc b61 (Below.size b61) x;go_wp2_with fail;obtain⟨U62,hU,bU,s62,rx0,rx1⟩:=lay b61 (.string ⟨x1.toArray⟩) (.string ⟨x2.toArray⟩) 28;rw[hU];clear hU ba s62;replace Lt:=zh (Lt.out.below bU);replace Ll:=zh (Ll.out.below bU);replace Lm:=zh (Lm.out.below bU);replace Ln:=zh (Ln.out.below bU);replace BW:=Below.more BW bU;replace HG:=zh (HB.out.below HG.out bU);clear bU;have b62:=Below.refl U62.heap.size U62;go_wp2_with fail;refine(C2.out _ (Lt.out.below b62) (Lm.out.below b62) (HB.out.below HG.out b62)).mono ?_;rintro e w63 ⟨rfl,b⟩;have b63:=Below.more b62 b;clear b;rcases HQ.out with ⟨rfl,rfl⟩|⟨hq,rfl⟩<;>(
     have ba:=fun x=>Below.alloc b63 (Below.size b63) x;go_wp2_with fail;obtain⟨U64,hU,bU,s64,ry0,ry1⟩:=lay b63 (.string ⟨y1.toArray⟩) (.string ⟨y2.toArray⟩) 28;rw[hU];clear hU ba s64;replace rx0:=fun v (h:Below U64.heap.size U64 v)=>rx0 v (Below.more bU h);replace rx1:=fun v (h:Below U64.heap.size U64 v)=>rx1 v (Below.more bU h);replace Lt:=zh (Lt.out.below bU);replace Ll:=zh (Ll.out.below bU);replace Lm:=zh (Lm.out.below bU);replace Ln:=zh (Ln.out.below bU);replace BW:=Below.more BW bU;replace HG:=zh (HB.out.below HG.out bU);clear bU;have b64:=Below.refl U64.heap.size U64
     (try go_wp2_with fail)
     go_ret;exact⟨ret_bool (by simp[*]),Below.more BW b64⟩)
end Go.Proofs.YtghioekjghmdaaaGreatDoor
