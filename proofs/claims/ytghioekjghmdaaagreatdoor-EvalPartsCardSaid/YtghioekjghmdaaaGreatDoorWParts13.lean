/- Own work. -/
import Derived.Test.YtghioekjghmdaaaGreatDoorFixE
import Derived.Test.YtghioekjghmdaaaGreatDoorEvQM
set_option linter.unusedSimpArgs false
set_option linter.unusedVariables false
set_option maxHeartbeats 4000000
set_option maxRecDepth 100000
namespace Go.Proofs.YtghioekjghmdaaaGreatDoor
open Go.RowKit
open Tm (Nd Tr treeOf checkT plainN avN)
variable {G : World → Prop}
open Tm (joinT)
open Ev (upQ hiQ loQ evalE endQ)
theorem Trms.two{w:World}{p:Option Addr}{a b c:List Nd}(h:Trms w p [a,b,c]):Trms w p [a,b]:=fun j t ht=>h j t (by
 match j,ht with
 | 0,ht=>exact ht
 | 1,ht=>exact ht)
theorem zc2(w:World)(a b c d:Value)(t t':TypeId):Zc w.heap.size a b ((w.alloc (.cells #[a,b] t)).alloc (.cells #[c,d] t')).drew∧Zc (w.heap.size+1) c d ((w.alloc (.cells #[a,b] t)).alloc (.cells #[c,d] t')).drew:=by
 have h2:=zc_new (w.alloc (.cells #[a,b] t)) c d t';rw[show (w.alloc (.cells #[a,b] t)).heap.size=w.heap.size+1 by simp]at h2;exact⟨((zc_new w a b t).below (Below.alloc (Below.refl _ _) (Nat.le_refl _) _)).drew,h2.drew⟩
def encKy(k:Key):List Value:=[.string ⟨k.1.toArray⟩,.string ⟨k.2.toArray⟩]
theorem ky_rule{w:World}{b:Nat}{l:List Key}(h:RowsG encKy 2 w (some ⟨b,0,none⟩) l){i:Nat}{k:Key}(hx:l[i]?=some k):(∀v,Below w.heap.size w v→v.cell? ⟨b,i*2,none⟩=some (.string ⟨k.1.toArray⟩))∧(∀v,Below w.heap.size w v→v.cell? ⟨b,i*2+1,none⟩=some (.string ⟨k.2.toArray⟩)):=by
 have key:=fun v (hv:Below w.heap.size w v)=>h.below hv i k hx;constructor
 ·intro v hv;obtain⟨b',o',hp,_,c⟩:=key v hv
  cases hp
  have:=c 0 _ rfl
  rwa[Nat.zero_add,Nat.add_zero]at this
 ·intro v hv;obtain⟨b',o',hp,_,c⟩:=key v hv
  cases hp
  have:=c 1 _ rfl
  rwa[Nat.zero_add]at this
theorem parts13_any(H:EvalC G)(pa pb pc:Option Addr)(ca cb cc:Nat)(ta tb tc:List Nd)(q:Option Addr)(d:Nat)(l:List Fx.Fix)(op:Int)(w:World)
  (hca:ta.length≤ca) (hna:ta.length≤4611686018427387904) (HRa:Hid (∀x∈ta,RgN x)) (hA:Nds w pa ta) (hcb:tb.length≤cb) (hnb:tb.length≤4611686018427387904) (HRb:Hid (∀x∈tb,RgN x)) (hB:Nds w pb tb) (hcc:tc.length≤cc) (hnc:tc.length≤4611686018427387904) (HRc:Hid (∀x∈tc,RgN x)) (hC:Nds w pc tc)
  (hcl:l.length≤d) (hnl:l.length≤4611686018427387904) (hL:Fxs w q l) (ho0:-9223372036854775808≤op) (ho1:op≤9223372036854775807) (hg:G w) :
  Calls Tryz.prog 5 #[.agg #[.slice pa ta.length ca,.slice pb tb.length cb,.slice pc tc.length cc],.slice q l.length d,.int .i64 op] w (GiveB w true):=by
 have HB:=zh H;have HG:=zh hg;have La:=zh hA;have Lb:=zh hB;have Lc:=zh hC;have Ll:=zh hL;clear H hg hA hB hC hL
 go_enter Tryz.func5,Tryz.ntmps5;have BW:=Below.refl w.heap.size w;have b0:=Below.refl w.heap.size w;go_wp2_with fail;obtain⟨U1,hU,bU,s1,rz0,rz1,rz2⟩:=lay3 b0 (.slice pa ta.length ca) (.slice pb tb.length cb) (.slice pc tc.length cc) 42;rw[hU];clear hU s1;replace La:=zh (La.out.below bU);replace Lb:=zh (Lb.out.below bU);replace Lc:=zh (Lc.out.below bU);replace Ll:=zh (Ll.out.below bU);replace BW:=Below.more BW bU;replace HG:=zh (HB.out.below HG.out bU);clear bU;have b1:=Below.refl U1.heap.size U1;refine(fixed13_any HB.out _ HG.out).mono ?_;rintro e w2 ⟨rfl,b⟩;have b2:=Below.more b1 b;clear b;by_cases g1:(19:Int)<(ta.length:Int)
 ·skip
  go_wp2_with fail;refine(fixed13_any HB.out _ (HB.out.below HG.out b2)).mono ?_;rintro e w9 ⟨rfl,b⟩;have b9:=Below.more b2 b;go_wp2_with fail;go_ret;exact⟨ret_bool rfl,Below.more BW b9⟩
 by_cases g2:(19:Int)<(tb.length:Int)
 ·skip
  go_wp2_with fail;refine(fixed13_any HB.out _ (HB.out.below HG.out b2)).mono ?_;rintro e w9 ⟨rfl,b⟩;have b9:=Below.more b2 b;go_wp2_with fail;go_ret;exact⟨ret_bool rfl,Below.more BW b9⟩
 by_cases g3:(19:Int)<(tc.length:Int)
 ·skip
  go_wp2_with fail;refine(fixed13_any HB.out _ (HB.out.below HG.out b2)).mono ?_;rintro e w9 ⟨rfl,b⟩;have b9:=Below.more b2 b;go_wp2_with fail;go_ret;exact⟨ret_bool rfl,Below.more BW b9⟩
 go_wp2_with fail;refine(light_any pa ca ta q d l _ hna hnl (La.out.below b2) (Ll.out.below b2)).mono ?_;rintro e w3 ⟨rfl,b⟩;have b3:=Below.more b2 b;clear b
 cases ha:liT ta l with
 | false =>
  go_wp2_with fail;refine(fixed13_any HB.out _ (HB.out.below HG.out b3)).mono ?_;rintro e w9 ⟨rfl,b⟩;have b9:=Below.more b3 b;go_wp2_with fail;go_ret;exact⟨ret_bool rfl,Below.more BW b9⟩
 | true =>
 go_wp2_with fail;refine(light_any pb cb tb q d l _ hnb hnl (Lb.out.below b3) (Ll.out.below b3)).mono ?_;rintro e w4 ⟨rfl,b⟩;have b4:=Below.more b3 b;clear b
 cases hb:liT tb l with
 | false =>
  go_wp2_with fail;refine(fixed13_any HB.out _ (HB.out.below HG.out b4)).mono ?_;rintro e w9 ⟨rfl,b⟩;have b9:=Below.more b4 b;go_wp2_with fail;go_ret;exact⟨ret_bool rfl,Below.more BW b9⟩
 | true =>
 go_wp2_with fail;refine(light_any pc cc tc q d l _ hnc hnl (Lc.out.below b4) (Ll.out.below b4)).mono ?_;rintro e w5 ⟨rfl,b⟩;have b5:=Below.more b4 b;clear b
 cases hc:liT tc l with
 | false =>
  go_wp2_with fail;refine(fixed13_any HB.out _ (HB.out.below HG.out b5)).mono ?_;rintro e w9 ⟨rfl,b⟩;have b9:=Below.more b5 b;go_wp2_with fail;go_ret;exact⟨ret_bool rfl,Below.more BW b9⟩
 | true =>
 have HP:=zh (li_parts ha);have HZa:=zh (li_sz ha HRa.out);have HLa:=zh ha
 have HZb:=zh (li_sz hb HRb.out);have HLb:=zh hb
 have HZc:=zh (li_sz hc HRc.out);have HLc:=zh hc
 clear ha hb hc;go_wp2_with fail;refine(rtcheck_any pa ca ta _ (szN_ref HZa.out) (La.out.below b5)).mono ?_;rintro e w6 ⟨rfl,b⟩;have b6:=Below.more b5 b;clear b;rcases Tm.check_two ta with ka|ka<;>rw[ka]
 rotate_left 1
 ·skip
  go_wp2_with fail;refine(fixed13_any HB.out _ (HB.out.below HG.out b6)).mono ?_;rintro e w9 ⟨rfl,b⟩;have b9:=Below.more b6 b;go_wp2_with fail;go_ret;exact⟨ret_bool rfl,Below.more BW b9⟩
 go_wp2_with fail;refine(rtcheck_any pb cb tb _ (szN_ref HZb.out) (Lb.out.below b6)).mono ?_;rintro e w7 ⟨rfl,b⟩;have b7:=Below.more b6 b;clear b;rcases Tm.check_two tb with kb|kb<;>rw[kb]
 rotate_left 1
 ·skip
  go_wp2_with fail;refine(fixed13_any HB.out _ (HB.out.below HG.out b7)).mono ?_;rintro e w9 ⟨rfl,b⟩;have b9:=Below.more b7 b;go_wp2_with fail;go_ret;exact⟨ret_bool rfl,Below.more BW b9⟩
 go_wp2_with fail;refine(rtcheck_any pc cc tc _ (szN_ref HZc.out) (Lc.out.below b7)).mono ?_;rintro e w8 ⟨rfl,b⟩;have b8:=Below.more b7 b;clear b;rcases Tm.check_two tc with kc|kc<;>rw[kc]
 rotate_left 1
 ·skip
  go_wp2_with fail;refine(fixed13_any HB.out _ (HB.out.below HG.out b8)).mono ?_;rintro e w9 ⟨rfl,b⟩;have b9:=Below.more b8 b;go_wp2_with fail;go_ret;exact⟨ret_bool rfl,Below.more BW b9⟩
 by_cases o1:op<6
 ·skip
  go_wp2_with fail;refine(fixed13_any HB.out _ (HB.out.below HG.out b8)).mono ?_;rintro e w9 ⟨rfl,b⟩;have b9:=Below.more b8 b;go_wp2_with fail;go_ret;exact⟨ret_bool rfl,Below.more BW b9⟩
 by_cases o2:12<op
 ·skip
  go_wp2_with fail;refine(fixed13_any HB.out _ (HB.out.below HG.out b8)).mono ?_;rintro e w9 ⟨rfl,b⟩;have b9:=Below.more b8 b;go_wp2_with fail;go_ret;exact⟨ret_bool rfl,Below.more BW b9⟩
 have HKa:=zh ka;have HKb:=zh kb;have HKc:=zh kc
 clear ka kb kc;obtain⟨⟨ka,ea⟩,hea⟩:∃r,evalE ta l=r:=⟨_,rfl⟩;have HEa:=zh hea;clear hea;obtain⟨⟨kb,eb⟩,heb⟩:∃r,evalE tb l=r:=⟨_,rfl⟩;have HEb:=zh heb;clear heb;obtain⟨⟨kc,ec⟩,hec⟩:∃r,evalE tc l=r:=⟨_,rfl⟩;have HEc:=zh hec;clear hec;have HN:Hid (ta.length≤19∧tb.length≤19∧tc.length≤19):=zh ⟨by omega,by omega,by omega⟩;have HOP:Hid (6≤op∧op≤12):=zh ⟨by omega,by omega⟩;go_wp2_with fail;refine(eval_li HB.out hca hcl HLa.out HRa.out HEa.out (La.out.below b8) (Ll.out.below b8) (HB.out.below HG.out b8)).mono ?_;rintro e w9 ⟨rfl,b⟩;have b9:=Below.more b8 b;clear b;clear g1 g2 g3 o1 o2;have ba:=fun x=>Below.alloc b9 (Below.size b9) x;go_wp2_with fail;obtain⟨U10,hU,bU,s10,ra0,ra1⟩:=lay b9 (.string ⟨ka.1.toArray⟩) (.string ⟨ka.2.toArray⟩) 28;rw[hU];clear hU ba s10;replace rz0:=fun v (h:Below U10.heap.size U10 v)=>rz0 v (Below.more bU h);replace rz1:=fun v (h:Below U10.heap.size U10 v)=>rz1 v (Below.more bU h);replace rz2:=fun v (h:Below U10.heap.size U10 v)=>rz2 v (Below.more bU h);replace La:=zh (La.out.below bU);replace Lb:=zh (Lb.out.below bU);replace Lc:=zh (Lc.out.below bU);replace Ll:=zh (Ll.out.below bU);replace BW:=Below.more BW bU;replace HG:=zh (HB.out.below HG.out bU);clear bU;have b10:=Below.refl U10.heap.size U10;go_wp2_with fail;refine(eval_li HB.out hcb hcl HLb.out HRb.out HEb.out (Lb.out.below b10) (Ll.out.below b10) (HB.out.below HG.out b10)).mono ?_;rintro e w11 ⟨rfl,b⟩;have b11:=Below.more b10 b;clear b;have ba:=fun x=>Below.alloc b11 (Below.size b11) x;go_wp2_with fail
 obtain⟨U12,hU,bU,s12,rb0,rb1⟩:=lay b11 (.string ⟨kb.1.toArray⟩) (.string ⟨kb.2.toArray⟩) 28;rw[hU];clear hU ba s12;replace rz0:=fun v (h:Below U12.heap.size U12 v)=>rz0 v (Below.more bU h);replace rz1:=fun v (h:Below U12.heap.size U12 v)=>rz1 v (Below.more bU h);replace rz2:=fun v (h:Below U12.heap.size U12 v)=>rz2 v (Below.more bU h);replace ra0:=fun v (h:Below U12.heap.size U12 v)=>ra0 v (Below.more bU h);replace ra1:=fun v (h:Below U12.heap.size U12 v)=>ra1 v (Below.more bU h);replace La:=zh (La.out.below bU);replace Lb:=zh (Lb.out.below bU);replace Lc:=zh (Lc.out.below bU);replace Ll:=zh (Ll.out.below bU);replace BW:=Below.more BW bU;replace HG:=zh (HB.out.below HG.out bU);clear bU;have b12:=Below.refl U12.heap.size U12;go_wp2_with fail;refine(eval_li HB.out hcc hcl HLc.out HRc.out HEc.out (Lc.out.below b12) (Ll.out.below b12) (HB.out.below HG.out b12)).mono ?_;rintro e w13 ⟨rfl,b⟩;have b13:=Below.more b12 b;clear b;by_cases h12:op=12
 ·subst h12;have ba:=fun x=>Below.alloc b13 (Below.size b13) x;go_wp2_with fail;obtain⟨U14,hU,bU,s14,rc0,rc1⟩:=lay b13 (.string ⟨kc.1.toArray⟩) (.string ⟨kc.2.toArray⟩) 28;rw[hU];clear hU ba;replace rz0:=fun v (h:Below U14.heap.size U14 v)=>rz0 v (Below.more bU h);replace rz1:=fun v (h:Below U14.heap.size U14 v)=>rz1 v (Below.more bU h);replace rz2:=fun v (h:Below U14.heap.size U14 v)=>rz2 v (Below.more bU h);replace ra0:=fun v (h:Below U14.heap.size U14 v)=>ra0 v (Below.more bU h);replace ra1:=fun v (h:Below U14.heap.size U14 v)=>ra1 v (Below.more bU h);replace rb0:=fun v (h:Below U14.heap.size U14 v)=>rb0 v (Below.more bU h);replace rb1:=fun v (h:Below U14.heap.size U14 v)=>rb1 v (Below.more bU h);replace La:=zh (La.out.below bU);replace Lb:=zh (Lb.out.below bU);replace Lc:=zh (Lc.out.below bU);replace Ll:=zh (Ll.out.below bU);replace BW:=Below.more BW bU;replace HG:=zh (HB.out.below HG.out bU);clear bU;have b14:=Below.refl U14.heap.size U14;rw[s14];clear s14;have hrow:=trms3 U14 pa pb pc ta.length tb.length tc.length ca cb cc ta tb tc rfl rfl rfl hca hcb hcc (La.out.below b14) (Lb.out.below b14) (Lc.out.below b14);have bn:Below U14.heap.size U14 (U14.alloc (.cells #[.slice pa ta.length ca,.slice pb tb.length cb,.slice pc tc.length cc] 23)):=Below.alloc (Below.refl _ _) (Nat.le_refl _) _;obtain⟨U15,hU⟩:∃U,U14.alloc (.cells #[.slice pa ta.length ca,.slice pb tb.length cb,.slice pc tc.length cc] 23)=U:=⟨_,rfl⟩;rw[hU]at hrow bn ⊢;have bU:=Below.more b14 bn;clear bn;replace rz0:=fun v (h:Below U15.heap.size U15 v)=>rz0 v (Below.more bU h)
  replace rz1:=fun v (h:Below U15.heap.size U15 v)=>rz1 v (Below.more bU h);replace rz2:=fun v (h:Below U15.heap.size U15 v)=>rz2 v (Below.more bU h);replace ra0:=fun v (h:Below U15.heap.size U15 v)=>ra0 v (Below.more bU h);replace ra1:=fun v (h:Below U15.heap.size U15 v)=>ra1 v (Below.more bU h);replace rb0:=fun v (h:Below U15.heap.size U15 v)=>rb0 v (Below.more bU h);replace rb1:=fun v (h:Below U15.heap.size U15 v)=>rb1 v (Below.more bU h);replace rc0:=fun v (h:Below U15.heap.size U15 v)=>rc0 v (Below.more bU h);replace rc1:=fun v (h:Below U15.heap.size U15 v)=>rc1 v (Below.more bU h);replace La:=zh (La.out.below bU);replace Lb:=zh (Lb.out.below bU);replace Lc:=zh (Lc.out.below bU);replace Ll:=zh (Ll.out.below bU);replace BW:=Below.more BW bU;replace HG:=zh (HB.out.below HG.out bU);have Lu:=zh hrow;clear hrow hU;clear bU;have b15:=Below.refl U15.heap.size U15;refine(rtjoin_n 12 _ 3 [ta,tb,tc] _ (by simp) (by have:=HN.out;simp;omega) Lu.out).mono ?_;rintro e0 U16 ⟨⟨pj,cj,rfl,hcj,hlj⟩,b⟩;have bU:=Below.more b15 b;clear b;replace rz0:=fun v (h:Below U16.heap.size U16 v)=>rz0 v (Below.more bU h);replace rz1:=fun v (h:Below U16.heap.size U16 v)=>rz1 v (Below.more bU h);replace rz2:=fun v (h:Below U16.heap.size U16 v)=>rz2 v (Below.more bU h);replace ra0:=fun v (h:Below U16.heap.size U16 v)=>ra0 v (Below.more bU h);replace ra1:=fun v (h:Below U16.heap.size U16 v)=>ra1 v (Below.more bU h);replace rb0:=fun v (h:Below U16.heap.size U16 v)=>rb0 v (Below.more bU h);replace rb1:=fun v (h:Below U16.heap.size U16 v)=>rb1 v (Below.more bU h)
  replace rc0:=fun v (h:Below U16.heap.size U16 v)=>rc0 v (Below.more bU h);replace rc1:=fun v (h:Below U16.heap.size U16 v)=>rc1 v (Below.more bU h);replace La:=zh (La.out.below bU);replace Lb:=zh (Lb.out.below bU);replace Lc:=zh (Lc.out.below bU);replace Ll:=zh (Ll.out.below bU);replace Lu:=zh (Lu.out.below bU);replace BW:=Below.more BW bU;replace HG:=zh (HB.out.below HG.out bU);have Lj:=zh hlj;clear hlj;clear bU;have b16:=Below.refl U16.heap.size U16;obtain⟨⟨kj,ej⟩,hej⟩:∃r,evalE (joinT 12 [ta,tb,tc]) l=r:=⟨_,rfl⟩;have HEj:=zh hej;clear hej;have HJL:Hid (liT (joinT 12 [ta,tb,tc]) l=true):=zh (li_join (fun t ht=>by
   simp only[List.mem_cons,List.not_mem_nil,or_false]at ht;rcases ht with rfl|rfl|rfl
   ·exact HLa.out
   ·exact HLb.out
   ·exact HLc.out) HP.out.2.2.2 (List.all_eq_true.2 HP.out.2.1) (by rw[Tm.join_len];have:=HN.out;simp;omega))
  have HJR:∀x∈joinT 12 [ta,tb,tc],RgN x:=rg_join (by decide) (by decide) (fun t ht=>by
   simp only[List.mem_cons,List.not_mem_nil,or_false]at ht;rcases ht with rfl|rfl|rfl
   ·exact HRa.out
   ·exact HRb.out
   ·exact HRc.out)
  have HJH:=zh HJR;clear HJR;go_wp2_with fail;refine(eval_li HB.out hcj hcl HJL.out HJH.out HEj.out (Lj.out.below b16) (Ll.out.below b16) (HB.out.below HG.out b16)).mono ?_;rintro e w17 ⟨rfl,b⟩;have b17:=Below.more b16 b;clear b;have hp:=Ev.three_parts HLa.out HLb.out HLc.out HKa.out HKb.out HKc.out HN.out.1 HN.out.2.1 HN.out.2.2;rw[HEa.out,HEb.out,HEc.out,HEj.out]at hp;have HPT:=zh hp;clear hp;by_cases z1:ea=0;rotate_left 1
  ·have HBD:Hid (¬ej=0):=zh (HPT.out.1 (.inl z1));have ba:=fun x=>Below.alloc b17 (Below.size b17) x;go_wp2_with fail;obtain⟨U18,hU,bU,s18,rj0,rj1⟩:=lay b17 (.string ⟨kj.1.toArray⟩) (.string ⟨kj.2.toArray⟩) 28;rw[hU];clear hU ba s18;replace rz0:=fun v (h:Below U18.heap.size U18 v)=>rz0 v (Below.more bU h);replace rz1:=fun v (h:Below U18.heap.size U18 v)=>rz1 v (Below.more bU h);replace rz2:=fun v (h:Below U18.heap.size U18 v)=>rz2 v (Below.more bU h);replace ra0:=fun v (h:Below U18.heap.size U18 v)=>ra0 v (Below.more bU h);replace ra1:=fun v (h:Below U18.heap.size U18 v)=>ra1 v (Below.more bU h);replace rb0:=fun v (h:Below U18.heap.size U18 v)=>rb0 v (Below.more bU h);replace rb1:=fun v (h:Below U18.heap.size U18 v)=>rb1 v (Below.more bU h);replace rc0:=fun v (h:Below U18.heap.size U18 v)=>rc0 v (Below.more bU h);replace rc1:=fun v (h:Below U18.heap.size U18 v)=>rc1 v (Below.more bU h);replace La:=zh (La.out.below bU);replace Lb:=zh (Lb.out.below bU);replace Lc:=zh (Lc.out.below bU);replace Ll:=zh (Ll.out.below bU);replace Lu:=zh (Lu.out.below bU);replace Lj:=zh (Lj.out.below bU);replace BW:=Below.more BW bU;replace HG:=zh (HB.out.below HG.out bU);clear bU;have b18:=Below.refl U18.heap.size U18;go_wp2_with fail;go_ret;exact⟨ret_bool (by simp;exact HBD.out),Below.more BW b18⟩
  by_cases z2:eb=0;rotate_left 1
  ·have HBD:Hid (¬ej=0):=zh (HPT.out.1 (.inr (.inl z2)));have ba:=fun x=>Below.alloc b17 (Below.size b17) x;go_wp2_with fail;obtain⟨U18,hU,bU,s18,rj0,rj1⟩:=lay b17 (.string ⟨kj.1.toArray⟩) (.string ⟨kj.2.toArray⟩) 28;rw[hU];clear hU ba s18;replace rz0:=fun v (h:Below U18.heap.size U18 v)=>rz0 v (Below.more bU h);replace rz1:=fun v (h:Below U18.heap.size U18 v)=>rz1 v (Below.more bU h);replace rz2:=fun v (h:Below U18.heap.size U18 v)=>rz2 v (Below.more bU h);replace ra0:=fun v (h:Below U18.heap.size U18 v)=>ra0 v (Below.more bU h);replace ra1:=fun v (h:Below U18.heap.size U18 v)=>ra1 v (Below.more bU h);replace rb0:=fun v (h:Below U18.heap.size U18 v)=>rb0 v (Below.more bU h);replace rb1:=fun v (h:Below U18.heap.size U18 v)=>rb1 v (Below.more bU h);replace rc0:=fun v (h:Below U18.heap.size U18 v)=>rc0 v (Below.more bU h);replace rc1:=fun v (h:Below U18.heap.size U18 v)=>rc1 v (Below.more bU h);replace La:=zh (La.out.below bU);replace Lb:=zh (Lb.out.below bU);replace Lc:=zh (Lc.out.below bU);replace Ll:=zh (Ll.out.below bU);replace Lu:=zh (Lu.out.below bU);replace Lj:=zh (Lj.out.below bU);replace BW:=Below.more BW bU;replace HG:=zh (HB.out.below HG.out bU);clear bU;have b18:=Below.refl U18.heap.size U18;go_wp2_with fail;go_ret;exact⟨ret_bool (by simp;exact HBD.out),Below.more BW b18⟩
  by_cases z3:ec=0;rotate_left 1
  ·have HBD:Hid (¬ej=0):=zh (HPT.out.1 (.inr (.inr z3)));have ba:=fun x=>Below.alloc b17 (Below.size b17) x;go_wp2_with fail;obtain⟨U18,hU,bU,s18,rj0,rj1⟩:=lay b17 (.string ⟨kj.1.toArray⟩) (.string ⟨kj.2.toArray⟩) 28;rw[hU];clear hU ba s18;replace rz0:=fun v (h:Below U18.heap.size U18 v)=>rz0 v (Below.more bU h);replace rz1:=fun v (h:Below U18.heap.size U18 v)=>rz1 v (Below.more bU h);replace rz2:=fun v (h:Below U18.heap.size U18 v)=>rz2 v (Below.more bU h);replace ra0:=fun v (h:Below U18.heap.size U18 v)=>ra0 v (Below.more bU h);replace ra1:=fun v (h:Below U18.heap.size U18 v)=>ra1 v (Below.more bU h);replace rb0:=fun v (h:Below U18.heap.size U18 v)=>rb0 v (Below.more bU h);replace rb1:=fun v (h:Below U18.heap.size U18 v)=>rb1 v (Below.more bU h);replace rc0:=fun v (h:Below U18.heap.size U18 v)=>rc0 v (Below.more bU h);replace rc1:=fun v (h:Below U18.heap.size U18 v)=>rc1 v (Below.more bU h);replace La:=zh (La.out.below bU);replace Lb:=zh (Lb.out.below bU);replace Lc:=zh (Lc.out.below bU);replace Ll:=zh (Ll.out.below bU);replace Lu:=zh (Lu.out.below bU);replace Lj:=zh (Lj.out.below bU);replace BW:=Below.more BW bU;replace HG:=zh (HB.out.below HG.out bU);clear bU;have b18:=Below.refl U18.heap.size U18;go_wp2_with fail;go_ret;exact⟨ret_bool (by simp;exact HBD.out),Below.more BW b18⟩
  have HT:=zh (HPT.out.2 z1 z2 z3);subst z1 z2 z3;clear HPT;obtain⟨X,Y,Z,t1,t2,t3,t4,t5,t6⟩:=HT.out;clear HT;obtain rfl:ka=rd X:=congrArg Prod.fst t1;obtain rfl:kb=rd Y:=congrArg Prod.fst t2;obtain rfl:kc=rd Z:=congrArg Prod.fst t3;clear t3;have sX:ShQ X:=⟨by omega,by omega⟩;have sY:ShQ Y:=⟨by omega,by omega⟩;clear t1 t2 t5 t6;obtain⟨ch,hch⟩:∃k,(if 0<sgnQ X then rd Y else rd Z)=k:=⟨_,rfl⟩;obtain⟨kh,hkh⟩:∃k,(if sgnQ (X-Y)<0 then rd Y else rd X)=k:=⟨_,rfl⟩;obtain⟨kl,hkl⟩:∃k,(if sgnQ (X-Y)<0 then rd X else rd Y)=k:=⟨_,rfl⟩;obtain⟨t41,rfl⟩:=Prod.mk.inj t4;clear t4;obtain⟨kq,bq,CQ⟩:∃ (kq:Key) (bq:Bool),Hid (∀V,Calls Tryz.prog 20 #[.agg #[.string ⟨(rd X).1.toArray⟩,.string ⟨(rd X).2.toArray⟩],.agg #[.string ⟨(rd Y).1.toArray⟩,.string ⟨(rd Y).2.toArray⟩]] V (GiveRB V (kq,bq))):=by
   by_cases y0:Y=0
   ·exact⟨([],[]),false,zh (fun V=>by subst y0;exact ediv0 sX V)⟩
   ·exact⟨_,true,zh fun V=>ediv sX sY V y0⟩
  have HLW:Hid (∃i:Nat,(12:Int)-6=(i:Int)∧[rd (X+Y),rd (X-Y),rd (X*Y),kq,kh,kl,ch][i]?=some kj):=zh ⟨6,rfl,by show some ch=_;rw[t41,← hch];split<;>rfl⟩;clear t41;have cs:=fun V=>esign sX V;have cp:=fun V=>ecmp sX sY rfl V;have ca:=fun V=>eadd sX sY V;have cu:=fun V=>esub sX sY V;have cm:=fun V=>emul sX sY V;have HCH:=zh hch;have HKH:=zh hkh;have HKL:=zh hkl
  generalize sgnQ X=sx at *;generalize sgnQ (X-Y)=sxy at *;have CS:=zh cs;have CP:=zh cp;have CA:=zh ca;have CU:=zh cu;have CM:=zh cm
  clear cs cp ca cu cm hch hkh hkl sX sY;have ba:=fun x=>Below.alloc b17 (Below.size b17) x;go_wp2_with fail;obtain⟨U18,hU,bU,s18,rj0,rj1⟩:=lay b17 (.string ⟨kj.1.toArray⟩) (.string ⟨kj.2.toArray⟩) 28;rw[hU];clear hU ba s18;replace rz0:=fun v (h:Below U18.heap.size U18 v)=>rz0 v (Below.more bU h);replace rz1:=fun v (h:Below U18.heap.size U18 v)=>rz1 v (Below.more bU h);replace rz2:=fun v (h:Below U18.heap.size U18 v)=>rz2 v (Below.more bU h);replace ra0:=fun v (h:Below U18.heap.size U18 v)=>ra0 v (Below.more bU h);replace ra1:=fun v (h:Below U18.heap.size U18 v)=>ra1 v (Below.more bU h);replace rb0:=fun v (h:Below U18.heap.size U18 v)=>rb0 v (Below.more bU h);replace rb1:=fun v (h:Below U18.heap.size U18 v)=>rb1 v (Below.more bU h);replace rc0:=fun v (h:Below U18.heap.size U18 v)=>rc0 v (Below.more bU h);replace rc1:=fun v (h:Below U18.heap.size U18 v)=>rc1 v (Below.more bU h);replace La:=zh (La.out.below bU);replace Lb:=zh (Lb.out.below bU);replace Lc:=zh (Lc.out.below bU);replace Ll:=zh (Ll.out.below bU);replace Lu:=zh (Lu.out.below bU);replace Lj:=zh (Lj.out.below bU);replace BW:=Below.more BW bU;replace HG:=zh (HB.out.below HG.out bU);clear bU;have b18:=Below.refl U18.heap.size U18;refine(CQ.out _).mono ?_;rintro e w19 ⟨rfl,b⟩;have b19:=Below.more b18 b;clear b;have ba:=fun x=>Below.alloc b19 (Below.size b19) x
  go_upto_region 16 with fail
  obtain⟨U20,hU,bU,s20,rq0,rq1⟩:=lay b19 (.string ⟨kq.1.toArray⟩) (.string ⟨kq.2.toArray⟩) 28;rw[hU];clear hU ba s20;replace rz0:=fun v (h:Below U20.heap.size U20 v)=>rz0 v (Below.more bU h);replace rz1:=fun v (h:Below U20.heap.size U20 v)=>rz1 v (Below.more bU h);replace rz2:=fun v (h:Below U20.heap.size U20 v)=>rz2 v (Below.more bU h);replace ra0:=fun v (h:Below U20.heap.size U20 v)=>ra0 v (Below.more bU h);replace ra1:=fun v (h:Below U20.heap.size U20 v)=>ra1 v (Below.more bU h);replace rb0:=fun v (h:Below U20.heap.size U20 v)=>rb0 v (Below.more bU h);replace rb1:=fun v (h:Below U20.heap.size U20 v)=>rb1 v (Below.more bU h);replace rc0:=fun v (h:Below U20.heap.size U20 v)=>rc0 v (Below.more bU h);replace rc1:=fun v (h:Below U20.heap.size U20 v)=>rc1 v (Below.more bU h);replace rj0:=fun v (h:Below U20.heap.size U20 v)=>rj0 v (Below.more bU h);replace rj1:=fun v (h:Below U20.heap.size U20 v)=>rj1 v (Below.more bU h);replace La:=zh (La.out.below bU);replace Lb:=zh (Lb.out.below bU);replace Lc:=zh (Lc.out.below bU);replace Ll:=zh (Ll.out.below bU);replace Lu:=zh (Lu.out.below bU);replace Lj:=zh (Lj.out.below bU);replace BW:=Below.more BW bU;replace HG:=zh (HB.out.below HG.out bU);clear bU;have b20:=Below.refl U20.heap.size U20;clear rz0 rz1 rz2;have ba:=fun x=>Below.alloc b20 (Below.size b20) x;go_wp2_with fail;obtain⟨V0,hV,hzv,cV0⟩:∃V,U20.alloc (.cells #[.string ⟨(rd Z).1.toArray⟩,.string ⟨(rd Z).2.toArray⟩] 28)=V∧Zc U20.heap.size (.string ⟨(rd Z).1.toArray⟩) (.string ⟨(rd Z).2.toArray⟩) V∧Below U20.heap.size U20 V:=⟨_,rfl,zc_new _ _ _ _,Below.alloc (Below.refl _ _) (Nat.le_refl _) _⟩
  rw[hV];clear hV ba;refine(CS.out _).mono ?_;rintro e1 y1 ⟨rfl,b⟩;have hz1:=hzv.below b;have c1:=Below.more cV0 b;clear hzv b cV0 rc0 rc1
  go_upto_if 159 with fail
  go_cut [6] from 157 to 160 (fun s6 wx=>s6=.bool false∧Zc U20.heap.size (.string ⟨ch.1.toArray⟩) (.string ⟨ch.2.toArray⟩) wx∧Below U20.heap.size U20 wx)
  case first =>
   have z0:=hz1.c0;have z1:=hz1.c1;have z2:=hz1.f0;have z3:=hz1.f1
   by_cases sg:0<sx
   ·have sgb:decide (0<sx)=true:=decide_eq_true sg;have h:=HCH.out;rw[if_pos sg]at h;have HH:=zh h;clear h;go_wp2_with fail
    go_meet
    exact⟨rfl,HH.out▸zc_put hz1,put2 c1 (Nat.le_refl _) _ _⟩
   ·have sgb:decide (0<sx)=false:=decide_eq_false sg;have h:=HCH.out;rw[if_neg sg]at h;have HH:=zh h;clear h;go_wp2_with fail
    go_meet
    exact⟨rfl,HH.out▸hz1,c1⟩
  case rest =>
   obtain⟨rfl,hzq,c2⟩:=hcut;generalize wc=V1 at *;clear hz1 c1;have BW2:=zh (Below.more BW c2);replace ra0:=fun v (h:Below V1.heap.size V1 v)=>ra0 v (Below.more c2 h);replace ra1:=fun v (h:Below V1.heap.size V1 v)=>ra1 v (Below.more c2 h);replace rb0:=fun v (h:Below V1.heap.size V1 v)=>rb0 v (Below.more c2 h);replace rb1:=fun v (h:Below V1.heap.size V1 v)=>rb1 v (Below.more c2 h);replace rj0:=fun v (h:Below V1.heap.size V1 v)=>rj0 v (Below.more c2 h);replace rj1:=fun v (h:Below V1.heap.size V1 v)=>rj1 v (Below.more c2 h);replace rq0:=fun v (h:Below V1.heap.size V1 v)=>rq0 v (Below.more c2 h);replace rq1:=fun v (h:Below V1.heap.size V1 v)=>rq1 v (Below.more c2 h);have hB:=zh (Nat.le_refl V1.heap.size);have c3:=Below.refl V1.heap.size V1;clear c2
   go_upto_region 19 with fail
   go_cut [19,20] from 161 to 162 (fun p1 p2 wx=>(∃b2 b3,p1=.pointer (some ⟨b2,0,none⟩)∧p2=.pointer (some ⟨b3,0,none⟩)∧Zc b2 (.string ⟨(rd X).1.toArray⟩) (.string ⟨(rd X).2.toArray⟩) wx∧Zc b3 (.string ⟨(rd Y).1.toArray⟩) (.string ⟨(rd Y).2.toArray⟩) wx∧b2≠b3∧V1.heap.size≤b2∧V1.heap.size≤b3)∧Below V1.heap.size V1 wx)
   case first =>
    have kA:∀o,Below V1.heap.size V1 (V1.alloc o):=fun o=>Below.alloc c3 (Nat.le_refl _) o;have kB:∀o o',Below V1.heap.size V1 ((V1.alloc o).alloc o'):=fun o o'=>Below.alloc (kA o) (kA o).size o';have ra0a:=ra0 _ c3;have ra0b:=fun o=>ra0 _ (kA o);have ra0c:=fun o o2=>ra0 _ (kB o o2);have ra0d:=ra0 _ c3.drew;have ra0e:=fun o=>ra0 _ (kA o).drew;have ra0f:=fun o o2=>ra0 _ (kB o o2).drew
    have ra1a:=ra1 _ c3;have ra1b:=fun o=>ra1 _ (kA o);have ra1c:=fun o o2=>ra1 _ (kB o o2);have ra1d:=ra1 _ c3.drew;have ra1e:=fun o=>ra1 _ (kA o).drew;have ra1f:=fun o o2=>ra1 _ (kB o o2).drew
    have rb0a:=rb0 _ c3;have rb0b:=fun o=>rb0 _ (kA o);have rb0c:=fun o o2=>rb0 _ (kB o o2);have rb0d:=rb0 _ c3.drew;have rb0e:=fun o=>rb0 _ (kA o).drew;have rb0f:=fun o o2=>rb0 _ (kB o o2).drew
    have rb1a:=rb1 _ c3;have rb1b:=fun o=>rb1 _ (kA o);have rb1c:=fun o o2=>rb1 _ (kB o o2);have rb1d:=rb1 _ c3.drew;have rb1e:=fun o=>rb1 _ (kA o).drew;have rb1f:=fun o o2=>rb1 _ (kB o o2).drew
    go_region
    all_goals (go_wp2_with fail)
    all_goals (go_meet)
    all_goals (first|exact⟨⟨_,_,rfl,rfl,(zc2 _ _ _ _ _ _ _).1,(zc2 _ _ _ _ _ _ _).2,by omega,Nat.le_refl _,Nat.le_succ _⟩,(kB _ _).drew⟩|exact⟨⟨_,_,rfl,rfl,(zc2 _ _ _ _ _ _ _).2,(zc2 _ _ _ _ _ _ _).1,by omega,Nat.le_succ _,Nat.le_refl _⟩,(kB _ _).drew⟩)
   case rest =>
    obtain⟨⟨b2,b3,rfl,rfl,h2,h3,hne,hb2,hb3⟩,hcc⟩:=hcut;have hq2:=hzq.below hcc;have hql:=hzq.lt;go_wp2_with fail;refine(CP.out _).mono ?_;rintro e2 y2 ⟨rfl,b⟩;have d2:=h2.below b;have d3:=h3.below b;have dq:=hq2.below b;have c5:=Below.more hcc b;clear b h2 h3 hq2 hzq hcc
    go_upto_if 166 with fail
    go_cut [6] from 163 to 168 (fun s6 wx=>s6=.bool false∧Zc b2 (.string ⟨kh.1.toArray⟩) (.string ⟨kh.2.toArray⟩) wx∧Zc b3 (.string ⟨kl.1.toArray⟩) (.string ⟨kl.2.toArray⟩) wx∧Zc U20.heap.size (.string ⟨ch.1.toArray⟩) (.string ⟨ch.2.toArray⟩) wx∧Below V1.heap.size V1 wx)
    case first =>
     by_cases tt:sxy<0
     ·have ttb:decide (sxy<0)=true:=decide_eq_true tt;have h1:=HKH.out;have h2:=HKL.out;rw[if_pos tt]at h1 h2;have HH:=zh (And.intro h1 h2);clear h1 h2;have z0:=d2.c0;have z1:=d2.c1;have z2:=d2.f0;have z3:=d2.f1
      have k2:=zc_put (x:=.string ⟨(rd Y).1.toArray⟩) (y:=.string ⟨(rd Y).2.toArray⟩) d2;have k3:=zc_far (s:=.string ⟨(rd Y).1.toArray⟩) (t:=.string ⟨(rd Y).2.toArray⟩) hne.symm d3;have z4:=k3.c0;have z5:=k3.c1;have z6:=k3.f0;have z7:=k3.f1
      have c6:=put2 c5 hb2 (.string ⟨(rd Y).1.toArray⟩) (.string ⟨(rd Y).2.toArray⟩);have ra0s:=ra0 _ c6;have ra1s:=ra1 _ c6;go_wp2_with fail
      go_meet
      exact⟨rfl,HH.out.1▸zc_far hne k2,HH.out.2▸zc_put k3,zc_far (by omega) (zc_far (by omega) dq),put2 c6 hb3 _ _⟩
     ·have ttb:decide (sxy<0)=false:=decide_eq_false tt;have h1:=HKH.out;have h2:=HKL.out;rw[if_neg tt]at h1 h2;have HH:=zh (And.intro h1 h2);clear h1 h2;go_wp2_with fail
      go_meet
      exact⟨rfl,HH.out.1▸d2,HH.out.2▸d3,dq,c5⟩
    case rest =>
     obtain⟨rfl,i2,i3,iq,c6⟩:=hcut;generalize wc=V3 at *;clear d2 d3 dq c5;have BW4:=zh (Below.more BW2.out c6);replace ra0:=fun v (h:Below V3.heap.size V3 v)=>ra0 v (Below.more c6 h);replace ra1:=fun v (h:Below V3.heap.size V3 v)=>ra1 v (Below.more c6 h);replace rb0:=fun v (h:Below V3.heap.size V3 v)=>rb0 v (Below.more c6 h);replace rb1:=fun v (h:Below V3.heap.size V3 v)=>rb1 v (Below.more c6 h);replace rj0:=fun v (h:Below V3.heap.size V3 v)=>rj0 v (Below.more c6 h);replace rj1:=fun v (h:Below V3.heap.size V3 v)=>rj1 v (Below.more c6 h);replace rq0:=fun v (h:Below V3.heap.size V3 v)=>rq0 v (Below.more c6 h);replace rq1:=fun v (h:Below V3.heap.size V3 v)=>rq1 v (Below.more c6 h);have rh0:=fun v (h:Below V3.heap.size V3 v)=>(i2.below h).c0;have rh1:=fun v (h:Below V3.heap.size V3 v)=>(i2.below h).c1;have rl0:=fun v (h:Below V3.heap.size V3 v)=>(i3.below h).c0;have rl1:=fun v (h:Below V3.heap.size V3 v)=>(i3.below h).c1;have rg0:=fun v (h:Below V3.heap.size V3 v)=>(iq.below h).c0;have rg1:=fun v (h:Below V3.heap.size V3 v)=>(iq.below h).c1;clear c6 i2 i3 iq hB;have hB:=zh (Nat.le_refl V3.heap.size);have c7:=Below.refl V3.heap.size V3
     go_upto_region 23 with fail
     refine wp_region_noPanic ?_;refine wp_region_held_drew (S:=fun w'=>Below V3.heap.size V3 w') (by kernel_rfl) (c7.drew) (fun hH0=>?_);refine wpAnyH_take (i:=0) (v:=?_) rfl (by kernel_rfl) (by kernel_rfl) (by kernel_rfl) (fun _ _ _ h=>h) (Or.inl ⟨by rfl,?_⟩) (by assumption) ?_;rotate_left 1
     ·(intro w hSw;(try dsimp only at hSw);go_simp<;>(with_reducible rfl))
     try simp only[Act.put,qA,qB,qC,qD,qE,qF]
     refine wpAnyH_take (i:=1) (v:=?_) rfl (by kernel_rfl) (by kernel_rfl) (by kernel_rfl) (fun _ _ _ h=>h) (Or.inl ⟨by rfl,?_⟩) (by assumption) ?_;rotate_left 1
     ·(intro w hSw;(try dsimp only at hSw);go_simp<;>(with_reducible rfl))
     try simp only[Act.put,qA,qB,qC,qD,qE,qF]
     refine wpAnyH_take (i:=3) (v:=?_) rfl (by kernel_rfl) (by kernel_rfl) (by kernel_rfl) (fun _ _ _ h=>h) (Or.inl ⟨by rfl,?_⟩) (by assumption) ?_;rotate_left 1
     ·(intro w hSw;(try dsimp only at hSw);go_simp<;>(with_reducible rfl))
     try simp only[Act.put,qA,qB,qC,qD,qE,qF]
     refine wpAnyH_take (i:=4) (v:=?_) rfl (by kernel_rfl) (by kernel_rfl) (by kernel_rfl) (fun _ _ _ h=>h) (Or.inl ⟨by rfl,?_⟩) (by assumption) ?_;rotate_left 1
     ·(intro w hSw;(try dsimp only at hSw);go_simp<;>(with_reducible rfl))
     try simp only[Act.put,qA,qB,qC,qD,qE,qF]
     refine wpAnyH_take (i:=6) (v:=?_) rfl (by kernel_rfl) (by kernel_rfl) (by kernel_rfl) (fun _ _ _ h=>h) (Or.inl ⟨by rfl,?_⟩) (by assumption) ?_;rotate_left 1
     ·(intro w hSw;(try dsimp only at hSw);go_simp<;>(with_reducible rfl))
     try simp only[Act.put,qA,qB,qC,qD,qE,qF]
     refine wpAnyH_take (i:=7) (v:=?_) rfl (by kernel_rfl) (by kernel_rfl) (by kernel_rfl) (fun _ _ _ h=>h) (Or.inl ⟨by rfl,?_⟩) (by assumption) ?_;rotate_left 1
     ·(intro w hSw;(try dsimp only at hSw);go_simp<;>(with_reducible rfl))
     try simp only[Act.put,qA,qB,qC,qD,qE,qF]
     refine wpAnyH_take (i:=9) (v:=?_) rfl (by kernel_rfl) (by kernel_rfl) (by kernel_rfl) (fun _ _ _ h=>h) (Or.inl ⟨by rfl,?_⟩) (by assumption) ?_;rotate_left 1
     ·(intro w hSw;(try dsimp only at hSw);go_simp<;>(with_reducible rfl))
     try simp only[Act.put,qA,qB,qC,qD,qE,qF]
     refine wpAnyH_take (i:=10) (v:=?_) rfl (by kernel_rfl) (by kernel_rfl) (by kernel_rfl) (fun _ _ _ h=>h) (Or.inl ⟨by rfl,?_⟩) (by assumption) ?_;rotate_left 1
     ·(intro w hSw;(try dsimp only at hSw);go_simp<;>(with_reducible rfl))
     try simp only[Act.put,qA,qB,qC,qD,qE,qF]
     refine wpAnyH_take (i:=11) (v:=?_) rfl (by kernel_rfl) (by kernel_rfl) (by kernel_rfl) (fun _ _ _ h=>h) (Or.inl ⟨by rfl,?_⟩) (by assumption) ?_;rotate_left 1
     ·(intro w hSw;(try dsimp only at hSw);go_simp<;>(with_reducible rfl))
     try simp only[Act.put,qA,qB,qC,qD,qE,qF]
     refine wpAnyH_take (i:=12) (v:=?_) rfl (by kernel_rfl) (by kernel_rfl) (by kernel_rfl) (fun _ _ _ h=>h) (Or.inl ⟨by rfl,?_⟩) (by assumption) ?_;rotate_left 1
     ·(intro w hSw;(try dsimp only at hSw);go_simp<;>(with_reducible rfl))
     try simp only[Act.put,qA,qB,qC,qD,qE,qF]
     refine wpAnyH_ready (rs:=[2]) (by kernel_rfl) (by simp) ?_;refine AllReadyH.cons rfl (fun K hK=>?_) AllReadyH.nil
     go_simp
     refine(held (W:=V3) hB.out (CA.out _) (by assumption)).mono ?_;rintro e x1 ⟨rfl,hb,hw⟩
     (try go_wp2_with fail)
     refine hK.out _ _ hw (fun hH1=>?_);clear hK hH0 hb hw
     try simp only[Act.put,qA,qB,qC,qD,qE,qF]
     refine wpAnyH_ready (rs:=[5]) (by kernel_rfl) (by simp) ?_;refine AllReadyH.cons rfl (fun K hK=>?_) AllReadyH.nil
     go_simp
     refine(held (W:=V3) hB.out (CU.out _) (by assumption)).mono ?_;rintro e x2 ⟨rfl,hb,hw⟩
     (try go_wp2_with fail)
     refine hK.out _ _ hw (fun hH2=>?_);clear hK hH1 hb hw
     try simp only[Act.put,qA,qB,qC,qD,qE,qF]
     refine wpAnyH_ready (rs:=[8]) (by kernel_rfl) (by simp) ?_;refine AllReadyH.cons rfl (fun K hK=>?_) AllReadyH.nil
     go_simp
     refine(held (W:=V3) hB.out (CM.out _) (by assumption)).mono ?_;rintro e x3 ⟨rfl,hb,hw⟩
     (try go_wp2_with fail)
     refine hK.out _ _ hw (fun hH3=>?_);clear hK hH2 hb hw
     try simp only[Act.put,qA,qB,qC,qD,qE,qF]
     refine wpAnyH_ready (rs:=[13]) (by kernel_rfl) (by simp) ?_;refine AllReadyH.cons rfl (fun K hK=>?_) AllReadyH.nil
     go_simp
     have hnew:=rowsLit (enc:=encKy) (k:=2) (fun _=>rfl) x3 [rd (X+Y),rd (X-Y),rd (X*Y),kq,kh,kl,ch] #[.string ⟨(rd (X+Y)).1.toArray⟩,.string ⟨(rd (X+Y)).2.toArray⟩,.string ⟨(rd (X-Y)).1.toArray⟩,.string ⟨(rd (X-Y)).2.toArray⟩,.string ⟨(rd (X*Y)).1.toArray⟩,.string ⟨(rd (X*Y)).2.toArray⟩,.string ⟨kq.1.toArray⟩,.string ⟨kq.2.toArray⟩,.string ⟨kh.1.toArray⟩,.string ⟨kh.2.toArray⟩,.string ⟨kl.1.toArray⟩,.string ⟨kl.2.toArray⟩,.string ⟨ch.1.toArray⟩,.string ⟨ch.2.toArray⟩] 28 rfl;have bb:Below x3.heap.size x3 (x3.alloc (.cells #[.string ⟨(rd (X+Y)).1.toArray⟩,.string ⟨(rd (X+Y)).2.toArray⟩,.string ⟨(rd (X-Y)).1.toArray⟩,.string ⟨(rd (X-Y)).2.toArray⟩,.string ⟨(rd (X*Y)).1.toArray⟩,.string ⟨(rd (X*Y)).2.toArray⟩,.string ⟨kq.1.toArray⟩,.string ⟨kq.2.toArray⟩,.string ⟨kh.1.toArray⟩,.string ⟨kh.2.toArray⟩,.string ⟨kl.1.toArray⟩,.string ⟨kl.2.toArray⟩,.string ⟨ch.1.toArray⟩,.string ⟨ch.2.toArray⟩] 28)):=Below.alloc (Below.refl _ _) (Nat.le_refl _) _;obtain⟨x4,hU⟩:∃U,x3.alloc (.cells #[.string ⟨(rd (X+Y)).1.toArray⟩,.string ⟨(rd (X+Y)).2.toArray⟩,.string ⟨(rd (X-Y)).1.toArray⟩,.string ⟨(rd (X-Y)).2.toArray⟩,.string ⟨(rd (X*Y)).1.toArray⟩,.string ⟨(rd (X*Y)).2.toArray⟩,.string ⟨kq.1.toArray⟩,.string ⟨kq.2.toArray⟩,.string ⟨kh.1.toArray⟩,.string ⟨kh.2.toArray⟩,.string ⟨kl.1.toArray⟩,.string ⟨kl.2.toArray⟩,.string ⟨ch.1.toArray⟩,.string ⟨ch.2.toArray⟩] 28)=U:=⟨_,rfl⟩;rw[hU]at hnew bb ⊢;have hw:Below V3.heap.size V3 x4:=Below.more hH3 bb;have Lw:=zh hnew;clear hnew hU;refine hK.out _ _ hw (fun hH4=>?_)
     clear hK hH3 bb hw
     try simp only[Act.put,qA,qB,qC,qD,qE,qF]
     refine wpAnyH_take (i:=14) (v:=?_) rfl (by kernel_rfl) (by kernel_rfl) (by kernel_rfl) (fun _ _ _ h=>h) (Or.inl ⟨by rfl,?_⟩) (by assumption) ?_;rotate_left 1
     ·(intro w hSw;(try dsimp only at hSw);go_simp<;>(with_reducible rfl))
     try simp only[Act.put,qA,qB,qC,qD,qE,qF]
     refine wpAnyH_done (by kernel_rfl) ?_ _;refine NoPanic.normal ?_;have bZ:=hH4;clear hH4;obtain⟨i,hi1,hi2⟩:=HLW.out;have hi7:i<7:=(List.getElem?_eq_some_iff.1 hi2).1;obtain⟨q0,q1⟩:=ky_rule Lw.out hi2;have rj0z:=rj0 _ bZ;have rj1z:=rj1 _ bZ
     have q0z:=q0 _ (Below.refl _ _);have q1z:=q1 _ (Below.refl _ _)
     obtain rfl:i=6:=by omega
     clear hi1 hi2 hi7;go_wp2_with fail
     go_quiet (fail)
     go_wp2_with fail;go_ret;exact⟨ret_bool (by simp),Below.more BW4.out (Below.drewN bZ _)⟩
 ·skip
  have ba:=fun x=>Below.alloc b13 (Below.size b13) x;go_wp2_with fail;obtain⟨U14,hU,bU,s14,rc0,rc1⟩:=lay b13 (.string ⟨kc.1.toArray⟩) (.string ⟨kc.2.toArray⟩) 28;rw[hU];clear hU ba;replace rz0:=fun v (h:Below U14.heap.size U14 v)=>rz0 v (Below.more bU h);replace rz1:=fun v (h:Below U14.heap.size U14 v)=>rz1 v (Below.more bU h);replace rz2:=fun v (h:Below U14.heap.size U14 v)=>rz2 v (Below.more bU h);replace ra0:=fun v (h:Below U14.heap.size U14 v)=>ra0 v (Below.more bU h);replace ra1:=fun v (h:Below U14.heap.size U14 v)=>ra1 v (Below.more bU h);replace rb0:=fun v (h:Below U14.heap.size U14 v)=>rb0 v (Below.more bU h);replace rb1:=fun v (h:Below U14.heap.size U14 v)=>rb1 v (Below.more bU h);replace La:=zh (La.out.below bU);replace Lb:=zh (Lb.out.below bU);replace Lc:=zh (Lc.out.below bU);replace Ll:=zh (Ll.out.below bU);replace BW:=Below.more BW bU;replace HG:=zh (HB.out.below HG.out bU);clear bU;have b14:=Below.refl U14.heap.size U14;rw[s14];clear s14;have hrow:=trms3 U14 pa pb pc ta.length tb.length tc.length ca cb cc ta tb tc rfl rfl rfl hca hcb hcc (La.out.below b14) (Lb.out.below b14) (Lc.out.below b14);have bn:Below U14.heap.size U14 (U14.alloc (.cells #[.slice pa ta.length ca,.slice pb tb.length cb,.slice pc tc.length cc] 23)):=Below.alloc (Below.refl _ _) (Nat.le_refl _) _;obtain⟨U15,hU⟩:∃U,U14.alloc (.cells #[.slice pa ta.length ca,.slice pb tb.length cb,.slice pc tc.length cc] 23)=U:=⟨_,rfl⟩;rw[hU]at hrow bn ⊢;have bU:=Below.more b14 bn;clear bn;replace rz0:=fun v (h:Below U15.heap.size U15 v)=>rz0 v (Below.more bU h)
  replace rz1:=fun v (h:Below U15.heap.size U15 v)=>rz1 v (Below.more bU h);replace rz2:=fun v (h:Below U15.heap.size U15 v)=>rz2 v (Below.more bU h);replace ra0:=fun v (h:Below U15.heap.size U15 v)=>ra0 v (Below.more bU h);replace ra1:=fun v (h:Below U15.heap.size U15 v)=>ra1 v (Below.more bU h);replace rb0:=fun v (h:Below U15.heap.size U15 v)=>rb0 v (Below.more bU h);replace rb1:=fun v (h:Below U15.heap.size U15 v)=>rb1 v (Below.more bU h);replace rc0:=fun v (h:Below U15.heap.size U15 v)=>rc0 v (Below.more bU h);replace rc1:=fun v (h:Below U15.heap.size U15 v)=>rc1 v (Below.more bU h);replace La:=zh (La.out.below bU);replace Lb:=zh (Lb.out.below bU);replace Lc:=zh (Lc.out.below bU);replace Ll:=zh (Ll.out.below bU);replace BW:=Below.more BW bU;replace HG:=zh (HB.out.below HG.out bU);have Lu:=zh hrow;clear hrow hU;clear bU;have b15:=Below.refl U15.heap.size U15;refine(rtjoin_n op _ 3 [ta,tb] _ (by simp) (by have:=HN.out;simp;omega) Lu.out.two).mono ?_;rintro e0 U16 ⟨⟨pj,cj,rfl,hcj,hlj⟩,b⟩;have bU:=Below.more b15 b;clear b;replace rz0:=fun v (h:Below U16.heap.size U16 v)=>rz0 v (Below.more bU h);replace rz1:=fun v (h:Below U16.heap.size U16 v)=>rz1 v (Below.more bU h);replace rz2:=fun v (h:Below U16.heap.size U16 v)=>rz2 v (Below.more bU h);replace ra0:=fun v (h:Below U16.heap.size U16 v)=>ra0 v (Below.more bU h);replace ra1:=fun v (h:Below U16.heap.size U16 v)=>ra1 v (Below.more bU h);replace rb0:=fun v (h:Below U16.heap.size U16 v)=>rb0 v (Below.more bU h);replace rb1:=fun v (h:Below U16.heap.size U16 v)=>rb1 v (Below.more bU h)
  replace rc0:=fun v (h:Below U16.heap.size U16 v)=>rc0 v (Below.more bU h);replace rc1:=fun v (h:Below U16.heap.size U16 v)=>rc1 v (Below.more bU h);replace La:=zh (La.out.below bU);replace Lb:=zh (Lb.out.below bU);replace Lc:=zh (Lc.out.below bU);replace Ll:=zh (Ll.out.below bU);replace Lu:=zh (Lu.out.below bU);replace BW:=Below.more BW bU;replace HG:=zh (HB.out.below HG.out bU);have Lj:=zh hlj;clear hlj;clear bU;have b16:=Below.refl U16.heap.size U16;obtain⟨⟨kj,ej⟩,hej⟩:∃r,evalE (joinT op [ta,tb]) l=r:=⟨_,rfl⟩;have HEj:=zh hej;clear hej;have HJL:Hid (liT (joinT op [ta,tb]) l=true):=zh (li_join (fun t ht=>by
   simp only[List.mem_cons,List.not_mem_nil,or_false]at ht;rcases ht with rfl|rfl
   ·exact HLa.out
   ·exact HLb.out) HP.out.2.2.2 (List.all_eq_true.2 HP.out.2.1) (by rw[Tm.join_len];have:=HN.out;simp;omega))
  have HJR:∀x∈joinT op [ta,tb],RgN x:=rg_join ho0 ho1 (fun t ht=>by
   simp only[List.mem_cons,List.not_mem_nil,or_false]at ht;rcases ht with rfl|rfl
   ·exact HRa.out
   ·exact HRb.out)
  have HJH:=zh HJR;clear HJR;go_wp2_with fail;refine(eval_li HB.out hcj hcl HJL.out HJH.out HEj.out (Lj.out.below b16) (Ll.out.below b16) (HB.out.below HG.out b16)).mono ?_;rintro e w17 ⟨rfl,b⟩;have b17:=Below.more b16 b;clear b;have hp:=Ev.two_parts ⟨HOP.out.1,by have:=HOP.out.2;omega⟩ HLa.out HLb.out HKa.out HKb.out HN.out.1 HN.out.2.1;rw[HEa.out,HEb.out,HEj.out]at hp;have HPT:=zh hp;clear hp;by_cases z1:ea=0;rotate_left 1
  ·have HBD:Hid (¬ej=0):=zh (HPT.out.1 (.inl z1));have ba:=fun x=>Below.alloc b17 (Below.size b17) x;go_wp2_with fail;obtain⟨U18,hU,bU,s18,rj0,rj1⟩:=lay b17 (.string ⟨kj.1.toArray⟩) (.string ⟨kj.2.toArray⟩) 28;rw[hU];clear hU ba s18;replace rz0:=fun v (h:Below U18.heap.size U18 v)=>rz0 v (Below.more bU h);replace rz1:=fun v (h:Below U18.heap.size U18 v)=>rz1 v (Below.more bU h);replace rz2:=fun v (h:Below U18.heap.size U18 v)=>rz2 v (Below.more bU h);replace ra0:=fun v (h:Below U18.heap.size U18 v)=>ra0 v (Below.more bU h);replace ra1:=fun v (h:Below U18.heap.size U18 v)=>ra1 v (Below.more bU h);replace rb0:=fun v (h:Below U18.heap.size U18 v)=>rb0 v (Below.more bU h);replace rb1:=fun v (h:Below U18.heap.size U18 v)=>rb1 v (Below.more bU h);replace rc0:=fun v (h:Below U18.heap.size U18 v)=>rc0 v (Below.more bU h);replace rc1:=fun v (h:Below U18.heap.size U18 v)=>rc1 v (Below.more bU h);replace La:=zh (La.out.below bU);replace Lb:=zh (Lb.out.below bU);replace Lc:=zh (Lc.out.below bU);replace Ll:=zh (Ll.out.below bU);replace Lu:=zh (Lu.out.below bU);replace Lj:=zh (Lj.out.below bU);replace BW:=Below.more BW bU;replace HG:=zh (HB.out.below HG.out bU);clear bU;have b18:=Below.refl U18.heap.size U18;go_wp2_with fail;go_ret;exact⟨ret_bool (by simp;exact HBD.out),Below.more BW b18⟩
  by_cases z2:eb=0;rotate_left 1
  ·have HBD:Hid (¬ej=0):=zh (HPT.out.1 (.inr z2));have ba:=fun x=>Below.alloc b17 (Below.size b17) x;go_wp2_with fail;obtain⟨U18,hU,bU,s18,rj0,rj1⟩:=lay b17 (.string ⟨kj.1.toArray⟩) (.string ⟨kj.2.toArray⟩) 28;rw[hU];clear hU ba s18;replace rz0:=fun v (h:Below U18.heap.size U18 v)=>rz0 v (Below.more bU h);replace rz1:=fun v (h:Below U18.heap.size U18 v)=>rz1 v (Below.more bU h);replace rz2:=fun v (h:Below U18.heap.size U18 v)=>rz2 v (Below.more bU h);replace ra0:=fun v (h:Below U18.heap.size U18 v)=>ra0 v (Below.more bU h);replace ra1:=fun v (h:Below U18.heap.size U18 v)=>ra1 v (Below.more bU h);replace rb0:=fun v (h:Below U18.heap.size U18 v)=>rb0 v (Below.more bU h);replace rb1:=fun v (h:Below U18.heap.size U18 v)=>rb1 v (Below.more bU h);replace rc0:=fun v (h:Below U18.heap.size U18 v)=>rc0 v (Below.more bU h);replace rc1:=fun v (h:Below U18.heap.size U18 v)=>rc1 v (Below.more bU h);replace La:=zh (La.out.below bU);replace Lb:=zh (Lb.out.below bU);replace Lc:=zh (Lc.out.below bU);replace Ll:=zh (Ll.out.below bU);replace Lu:=zh (Lu.out.below bU);replace Lj:=zh (Lj.out.below bU);replace BW:=Below.more BW bU;replace HG:=zh (HB.out.below HG.out bU);clear bU;have b18:=Below.refl U18.heap.size U18;go_wp2_with fail;go_ret;exact⟨ret_bool (by simp;exact HBD.out),Below.more BW b18⟩
  have HT:=zh (HPT.out.2 z1 z2);subst z1 z2;clear HPT;obtain⟨X,Y,t1,t2,t4,t5,t6⟩:=HT.out;clear HT;obtain rfl:ka=rd X:=congrArg Prod.fst t1;obtain rfl:kb=rd Y:=congrArg Prod.fst t2;have sX:ShQ X:=⟨by omega,by omega⟩;have sY:ShQ Y:=⟨by omega,by omega⟩;clear t1 t2 t5 t6;obtain⟨ch,hch⟩:∃k,(if 0<sgnQ X then rd Y else kc)=k:=⟨_,rfl⟩;obtain⟨kh,hkh⟩:∃k,(if sgnQ (X-Y)<0 then rd Y else rd X)=k:=⟨_,rfl⟩;obtain⟨kl,hkl⟩:∃k,(if sgnQ (X-Y)<0 then rd X else rd Y)=k:=⟨_,rfl⟩;obtain⟨kq,bq,CQ,hq⟩:∃ (kq:Key) (bq:Bool),Hid (∀V,Calls Tryz.prog 20 #[.agg #[.string ⟨(rd X).1.toArray⟩,.string ⟨(rd X).2.toArray⟩],.agg #[.string ⟨(rd Y).1.toArray⟩,.string ⟨(rd Y).2.toArray⟩]] V (GiveRB V (kq,bq)))∧((op=9∧Y=0∧kq=([],[])∧bq=false∧ej=131)∨((ej=0∧(∃i:Nat,op-6=(i:Int)∧[rd (X+Y),rd (X-Y),rd (X*Y),kq,kh,kl,ch][i]?=some kj))∧(op=9→bq=true))):=by
   by_cases y0:Y=0
   ·refine⟨([],[]),false,zh (fun V=>by subst y0;exact ediv0 sX V),?_⟩;rcases(show op=6∨op=7∨op=8∨op=9∨op=10∨op=11 by have:=HOP.out;omega) with h|h|h|h|h|h<;>subst h
    ·exact .inr ⟨⟨congrArg Prod.snd t4,0,rfl,(congrArg (fun p:Key×Int=>some p.1) t4).symm⟩,fun h=>by cases h⟩
    ·exact .inr ⟨⟨congrArg Prod.snd t4,1,rfl,(congrArg (fun p:Key×Int=>some p.1) t4).symm⟩,fun h=>by cases h⟩
    ·exact .inr ⟨⟨congrArg Prod.snd t4,2,rfl,(congrArg (fun p:Key×Int=>some p.1) t4).symm⟩,fun h=>by cases h⟩
    ·refine .inl ⟨rfl,y0,rfl,rfl,?_⟩;have e:upQ 9 [X,Y]=none:=by show (if Y=0 then none else some (X / Y))=none;rw[if_pos y0]
     rw[e]at t4;exact congrArg Prod.snd t4
    ·exact .inr ⟨⟨congrArg Prod.snd t4,4,rfl,by rw[show kj=rd (hiQ X Y) from congrArg Prod.fst t4];show some kh=_;rw[←hkh];unfold hiQ;split<;>split<;>first|rfl|omega⟩,fun h=>by cases h⟩
    ·exact .inr ⟨⟨congrArg Prod.snd t4,5,rfl,by rw[show kj=rd (loQ X Y) from congrArg Prod.fst t4];show some kl=_;rw[←hkl,Ev.lo_key X Y]⟩,fun h=>by cases h⟩
   ·refine⟨_,true,zh fun V=>ediv sX sY V y0,.inr ?_⟩;rcases(show op=6∨op=7∨op=8∨op=9∨op=10∨op=11 by have:=HOP.out;omega) with h|h|h|h|h|h<;>subst h
    ·exact⟨⟨congrArg Prod.snd t4,0,rfl,(congrArg (fun p:Key×Int=>some p.1) t4).symm⟩,fun _=>rfl⟩
    ·exact⟨⟨congrArg Prod.snd t4,1,rfl,(congrArg (fun p:Key×Int=>some p.1) t4).symm⟩,fun _=>rfl⟩
    ·exact⟨⟨congrArg Prod.snd t4,2,rfl,(congrArg (fun p:Key×Int=>some p.1) t4).symm⟩,fun _=>rfl⟩
    ·have e:upQ 9 [X,Y]=some (X / Y):=by show (if Y=0 then none else some (X / Y))=_;rw[if_neg y0]
     rw[e]at t4;exact⟨⟨congrArg Prod.snd t4,3,rfl,(congrArg (fun p:Key×Int=>some p.1) t4).symm⟩,fun _=>rfl⟩
    ·exact⟨⟨congrArg Prod.snd t4,4,rfl,by rw[show kj=rd (hiQ X Y) from congrArg Prod.fst t4];show some kh=_;rw[←hkh];unfold hiQ;split<;>split<;>first|rfl|omega⟩,fun _=>rfl⟩
    ·exact⟨⟨congrArg Prod.snd t4,5,rfl,by rw[show kj=rd (loQ X Y) from congrArg Prod.fst t4];show some kl=_;rw[←hkl,Ev.lo_key X Y]⟩,fun _=>rfl⟩
  clear t4;have cs:=fun V=>esign sX V;have cp:=fun V=>ecmp sX sY rfl V;have ca:=fun V=>eadd sX sY V;have cu:=fun V=>esub sX sY V;have cm:=fun V=>emul sX sY V;have HCH:=zh hch;have HKH:=zh hkh;have HKL:=zh hkl
  generalize sgnQ X=sx at *;generalize sgnQ (X-Y)=sxy at *;have CS:=zh cs;have CP:=zh cp;have CA:=zh ca;have CU:=zh cu;have CM:=zh cm
  clear cs cp ca cu cm hch hkh hkl sX sY;have ba:=fun x=>Below.alloc b17 (Below.size b17) x;go_wp2_with fail;obtain⟨U18,hU,bU,s18,rj0,rj1⟩:=lay b17 (.string ⟨kj.1.toArray⟩) (.string ⟨kj.2.toArray⟩) 28;rw[hU];clear hU ba s18;replace rz0:=fun v (h:Below U18.heap.size U18 v)=>rz0 v (Below.more bU h);replace rz1:=fun v (h:Below U18.heap.size U18 v)=>rz1 v (Below.more bU h);replace rz2:=fun v (h:Below U18.heap.size U18 v)=>rz2 v (Below.more bU h);replace ra0:=fun v (h:Below U18.heap.size U18 v)=>ra0 v (Below.more bU h);replace ra1:=fun v (h:Below U18.heap.size U18 v)=>ra1 v (Below.more bU h);replace rb0:=fun v (h:Below U18.heap.size U18 v)=>rb0 v (Below.more bU h);replace rb1:=fun v (h:Below U18.heap.size U18 v)=>rb1 v (Below.more bU h);replace rc0:=fun v (h:Below U18.heap.size U18 v)=>rc0 v (Below.more bU h);replace rc1:=fun v (h:Below U18.heap.size U18 v)=>rc1 v (Below.more bU h);replace La:=zh (La.out.below bU);replace Lb:=zh (Lb.out.below bU);replace Lc:=zh (Lc.out.below bU);replace Ll:=zh (Ll.out.below bU);replace Lu:=zh (Lu.out.below bU);replace Lj:=zh (Lj.out.below bU);replace BW:=Below.more BW bU;replace HG:=zh (HB.out.below HG.out bU);clear bU;have b18:=Below.refl U18.heap.size U18;refine(CQ.out _).mono ?_;rintro e w19 ⟨rfl,b⟩;have b19:=Below.more b18 b;clear b;rcases hq with ⟨h9,y0,rfl,rfl,rfl⟩|hq
  ·subst h9;have ba:=fun x=>Below.alloc b19 (Below.size b19) x;go_wp2_with fail;obtain⟨U20,hU,bU,s20,rq0,rq1⟩:=lay b19 (.string ⟨#[]⟩) (.string ⟨#[]⟩) 28;rw[hU];clear hU ba s20;replace rz0:=fun v (h:Below U20.heap.size U20 v)=>rz0 v (Below.more bU h);replace rz1:=fun v (h:Below U20.heap.size U20 v)=>rz1 v (Below.more bU h);replace rz2:=fun v (h:Below U20.heap.size U20 v)=>rz2 v (Below.more bU h);replace ra0:=fun v (h:Below U20.heap.size U20 v)=>ra0 v (Below.more bU h);replace ra1:=fun v (h:Below U20.heap.size U20 v)=>ra1 v (Below.more bU h);replace rb0:=fun v (h:Below U20.heap.size U20 v)=>rb0 v (Below.more bU h);replace rb1:=fun v (h:Below U20.heap.size U20 v)=>rb1 v (Below.more bU h);replace rc0:=fun v (h:Below U20.heap.size U20 v)=>rc0 v (Below.more bU h);replace rc1:=fun v (h:Below U20.heap.size U20 v)=>rc1 v (Below.more bU h);replace rj0:=fun v (h:Below U20.heap.size U20 v)=>rj0 v (Below.more bU h);replace rj1:=fun v (h:Below U20.heap.size U20 v)=>rj1 v (Below.more bU h);replace La:=zh (La.out.below bU);replace Lb:=zh (Lb.out.below bU);replace Lc:=zh (Lc.out.below bU);replace Ll:=zh (Ll.out.below bU);replace Lu:=zh (Lu.out.below bU);replace Lj:=zh (Lj.out.below bU);replace BW:=Below.more BW bU;replace HG:=zh (HB.out.below HG.out bU);clear bU;have b20:=Below.refl U20.heap.size U20;go_wp2_with fail;go_ret;exact⟨ret_bool (by simp),Below.more BW b20⟩
  obtain⟨⟨rfl,hlw⟩,hpk⟩:=hq;have HLW:=zh hlw;clear hlw;rcases(show ¬op=9∨op=9∧bq=true by by_cases c:op=9;exact .inr ⟨c,hpk c⟩;exact .inl c) with h9|⟨h9,rfl⟩<;>clear hpk
  rotate_left 1;have hb9:(op==9)=true:=beq_iff_eq.2 h9;clear h9;rotate_left 1;have hb9:(op==9)=false:=beq_false_of_ne h9;clear h9
  all_goals (
  have ba:=fun x=>Below.alloc b19 (Below.size b19) x
  go_upto_region 16 with fail
  obtain⟨U20,hU,bU,s20,rq0,rq1⟩:=lay b19 (.string ⟨kq.1.toArray⟩) (.string ⟨kq.2.toArray⟩) 28;rw[hU];clear hU ba s20;replace rz0:=fun v (h:Below U20.heap.size U20 v)=>rz0 v (Below.more bU h);replace rz1:=fun v (h:Below U20.heap.size U20 v)=>rz1 v (Below.more bU h);replace rz2:=fun v (h:Below U20.heap.size U20 v)=>rz2 v (Below.more bU h);replace ra0:=fun v (h:Below U20.heap.size U20 v)=>ra0 v (Below.more bU h);replace ra1:=fun v (h:Below U20.heap.size U20 v)=>ra1 v (Below.more bU h);replace rb0:=fun v (h:Below U20.heap.size U20 v)=>rb0 v (Below.more bU h);replace rb1:=fun v (h:Below U20.heap.size U20 v)=>rb1 v (Below.more bU h);replace rc0:=fun v (h:Below U20.heap.size U20 v)=>rc0 v (Below.more bU h);replace rc1:=fun v (h:Below U20.heap.size U20 v)=>rc1 v (Below.more bU h);replace rj0:=fun v (h:Below U20.heap.size U20 v)=>rj0 v (Below.more bU h);replace rj1:=fun v (h:Below U20.heap.size U20 v)=>rj1 v (Below.more bU h);replace La:=zh (La.out.below bU);replace Lb:=zh (Lb.out.below bU);replace Lc:=zh (Lc.out.below bU);replace Ll:=zh (Ll.out.below bU);replace Lu:=zh (Lu.out.below bU);replace Lj:=zh (Lj.out.below bU);replace BW:=Below.more BW bU;replace HG:=zh (HB.out.below HG.out bU);clear bU;have b20:=Below.refl U20.heap.size U20;clear rz0 rz1 rz2;have ba:=fun x=>Below.alloc b20 (Below.size b20) x;go_wp2_with fail;obtain⟨V0,hV,hzv,cV0⟩:∃V,U20.alloc (.cells #[.string ⟨kc.1.toArray⟩,.string ⟨kc.2.toArray⟩] 28)=V∧Zc U20.heap.size (.string ⟨kc.1.toArray⟩) (.string ⟨kc.2.toArray⟩) V∧Below U20.heap.size U20 V:=⟨_,rfl,zc_new _ _ _ _,Below.alloc (Below.refl _ _) (Nat.le_refl _) _⟩
  rw[hV];clear hV ba;refine(CS.out _).mono ?_;rintro e1 y1 ⟨rfl,b⟩;have hz1:=hzv.below b;have c1:=Below.more cV0 b;clear hzv b cV0 rc0 rc1
  go_upto_if 159 with fail
  go_cut [6] from 157 to 160 (fun s6 wx=>s6=.bool false∧Zc U20.heap.size (.string ⟨ch.1.toArray⟩) (.string ⟨ch.2.toArray⟩) wx∧Below U20.heap.size U20 wx)
  case first =>
   have z0:=hz1.c0;have z1:=hz1.c1;have z2:=hz1.f0;have z3:=hz1.f1
   by_cases sg:0<sx
   ·have sgb:decide (0<sx)=true:=decide_eq_true sg;have h:=HCH.out;rw[if_pos sg]at h;have HH:=zh h;clear h;go_wp2_with fail
    go_meet
    exact⟨rfl,HH.out▸zc_put hz1,put2 c1 (Nat.le_refl _) _ _⟩
   ·have sgb:decide (0<sx)=false:=decide_eq_false sg;have h:=HCH.out;rw[if_neg sg]at h;have HH:=zh h;clear h;go_wp2_with fail
    go_meet
    exact⟨rfl,HH.out▸hz1,c1⟩
  case rest =>
   obtain⟨rfl,hzq,c2⟩:=hcut;generalize wc=V1 at *;clear hz1 c1;have BW2:=zh (Below.more BW c2);replace ra0:=fun v (h:Below V1.heap.size V1 v)=>ra0 v (Below.more c2 h);replace ra1:=fun v (h:Below V1.heap.size V1 v)=>ra1 v (Below.more c2 h);replace rb0:=fun v (h:Below V1.heap.size V1 v)=>rb0 v (Below.more c2 h);replace rb1:=fun v (h:Below V1.heap.size V1 v)=>rb1 v (Below.more c2 h);replace rj0:=fun v (h:Below V1.heap.size V1 v)=>rj0 v (Below.more c2 h);replace rj1:=fun v (h:Below V1.heap.size V1 v)=>rj1 v (Below.more c2 h);replace rq0:=fun v (h:Below V1.heap.size V1 v)=>rq0 v (Below.more c2 h);replace rq1:=fun v (h:Below V1.heap.size V1 v)=>rq1 v (Below.more c2 h);have hB:=zh (Nat.le_refl V1.heap.size);have c3:=Below.refl V1.heap.size V1;clear c2
   go_upto_region 19 with fail
   go_cut [19,20] from 161 to 162 (fun p1 p2 wx=>(∃b2 b3,p1=.pointer (some ⟨b2,0,none⟩)∧p2=.pointer (some ⟨b3,0,none⟩)∧Zc b2 (.string ⟨(rd X).1.toArray⟩) (.string ⟨(rd X).2.toArray⟩) wx∧Zc b3 (.string ⟨(rd Y).1.toArray⟩) (.string ⟨(rd Y).2.toArray⟩) wx∧b2≠b3∧V1.heap.size≤b2∧V1.heap.size≤b3)∧Below V1.heap.size V1 wx)
   case first =>
    have kA:∀o,Below V1.heap.size V1 (V1.alloc o):=fun o=>Below.alloc c3 (Nat.le_refl _) o;have kB:∀o o',Below V1.heap.size V1 ((V1.alloc o).alloc o'):=fun o o'=>Below.alloc (kA o) (kA o).size o';have ra0a:=ra0 _ c3;have ra0b:=fun o=>ra0 _ (kA o);have ra0c:=fun o o2=>ra0 _ (kB o o2);have ra0d:=ra0 _ c3.drew;have ra0e:=fun o=>ra0 _ (kA o).drew;have ra0f:=fun o o2=>ra0 _ (kB o o2).drew
    have ra1a:=ra1 _ c3;have ra1b:=fun o=>ra1 _ (kA o);have ra1c:=fun o o2=>ra1 _ (kB o o2);have ra1d:=ra1 _ c3.drew;have ra1e:=fun o=>ra1 _ (kA o).drew;have ra1f:=fun o o2=>ra1 _ (kB o o2).drew
    have rb0a:=rb0 _ c3;have rb0b:=fun o=>rb0 _ (kA o);have rb0c:=fun o o2=>rb0 _ (kB o o2);have rb0d:=rb0 _ c3.drew;have rb0e:=fun o=>rb0 _ (kA o).drew;have rb0f:=fun o o2=>rb0 _ (kB o o2).drew
    have rb1a:=rb1 _ c3;have rb1b:=fun o=>rb1 _ (kA o);have rb1c:=fun o o2=>rb1 _ (kB o o2);have rb1d:=rb1 _ c3.drew;have rb1e:=fun o=>rb1 _ (kA o).drew;have rb1f:=fun o o2=>rb1 _ (kB o o2).drew
    go_region
    all_goals (go_wp2_with fail)
    all_goals (go_meet)
    all_goals (first|exact⟨⟨_,_,rfl,rfl,(zc2 _ _ _ _ _ _ _).1,(zc2 _ _ _ _ _ _ _).2,by omega,Nat.le_refl _,Nat.le_succ _⟩,(kB _ _).drew⟩|exact⟨⟨_,_,rfl,rfl,(zc2 _ _ _ _ _ _ _).2,(zc2 _ _ _ _ _ _ _).1,by omega,Nat.le_succ _,Nat.le_refl _⟩,(kB _ _).drew⟩)
   case rest =>
    obtain⟨⟨b2,b3,rfl,rfl,h2,h3,hne,hb2,hb3⟩,hcc⟩:=hcut;have hq2:=hzq.below hcc;have hql:=hzq.lt;go_wp2_with fail;refine(CP.out _).mono ?_;rintro e2 y2 ⟨rfl,b⟩;have d2:=h2.below b;have d3:=h3.below b;have dq:=hq2.below b;have c5:=Below.more hcc b;clear b h2 h3 hq2 hzq hcc
    go_upto_if 166 with fail
    go_cut [6] from 163 to 168 (fun s6 wx=>s6=.bool false∧Zc b2 (.string ⟨kh.1.toArray⟩) (.string ⟨kh.2.toArray⟩) wx∧Zc b3 (.string ⟨kl.1.toArray⟩) (.string ⟨kl.2.toArray⟩) wx∧Zc U20.heap.size (.string ⟨ch.1.toArray⟩) (.string ⟨ch.2.toArray⟩) wx∧Below V1.heap.size V1 wx)
    case first =>
     by_cases tt:sxy<0
     ·have ttb:decide (sxy<0)=true:=decide_eq_true tt;have h1:=HKH.out;have h2:=HKL.out;rw[if_pos tt]at h1 h2;have HH:=zh (And.intro h1 h2);clear h1 h2;have z0:=d2.c0;have z1:=d2.c1;have z2:=d2.f0;have z3:=d2.f1
      have k2:=zc_put (x:=.string ⟨(rd Y).1.toArray⟩) (y:=.string ⟨(rd Y).2.toArray⟩) d2;have k3:=zc_far (s:=.string ⟨(rd Y).1.toArray⟩) (t:=.string ⟨(rd Y).2.toArray⟩) hne.symm d3;have z4:=k3.c0;have z5:=k3.c1;have z6:=k3.f0;have z7:=k3.f1
      have c6:=put2 c5 hb2 (.string ⟨(rd Y).1.toArray⟩) (.string ⟨(rd Y).2.toArray⟩);have ra0s:=ra0 _ c6;have ra1s:=ra1 _ c6;go_wp2_with fail
      go_meet
      exact⟨rfl,HH.out.1▸zc_far hne k2,HH.out.2▸zc_put k3,zc_far (by omega) (zc_far (by omega) dq),put2 c6 hb3 _ _⟩
     ·have ttb:decide (sxy<0)=false:=decide_eq_false tt;have h1:=HKH.out;have h2:=HKL.out;rw[if_neg tt]at h1 h2;have HH:=zh (And.intro h1 h2);clear h1 h2;go_wp2_with fail
      go_meet
      exact⟨rfl,HH.out.1▸d2,HH.out.2▸d3,dq,c5⟩
    case rest =>
     obtain⟨rfl,i2,i3,iq,c6⟩:=hcut;generalize wc=V3 at *;clear d2 d3 dq c5;have BW4:=zh (Below.more BW2.out c6);replace ra0:=fun v (h:Below V3.heap.size V3 v)=>ra0 v (Below.more c6 h);replace ra1:=fun v (h:Below V3.heap.size V3 v)=>ra1 v (Below.more c6 h);replace rb0:=fun v (h:Below V3.heap.size V3 v)=>rb0 v (Below.more c6 h);replace rb1:=fun v (h:Below V3.heap.size V3 v)=>rb1 v (Below.more c6 h);replace rj0:=fun v (h:Below V3.heap.size V3 v)=>rj0 v (Below.more c6 h);replace rj1:=fun v (h:Below V3.heap.size V3 v)=>rj1 v (Below.more c6 h);replace rq0:=fun v (h:Below V3.heap.size V3 v)=>rq0 v (Below.more c6 h);replace rq1:=fun v (h:Below V3.heap.size V3 v)=>rq1 v (Below.more c6 h);have rh0:=fun v (h:Below V3.heap.size V3 v)=>(i2.below h).c0;have rh1:=fun v (h:Below V3.heap.size V3 v)=>(i2.below h).c1;have rl0:=fun v (h:Below V3.heap.size V3 v)=>(i3.below h).c0;have rl1:=fun v (h:Below V3.heap.size V3 v)=>(i3.below h).c1;have rg0:=fun v (h:Below V3.heap.size V3 v)=>(iq.below h).c0;have rg1:=fun v (h:Below V3.heap.size V3 v)=>(iq.below h).c1;clear c6 i2 i3 iq hB;have hB:=zh (Nat.le_refl V3.heap.size);have c7:=Below.refl V3.heap.size V3
     go_upto_region 23 with fail
     refine wp_region_noPanic ?_;refine wp_region_held_drew (S:=fun w'=>Below V3.heap.size V3 w') (by kernel_rfl) (c7.drew) (fun hH0=>?_);refine wpAnyH_take (i:=0) (v:=?_) rfl (by kernel_rfl) (by kernel_rfl) (by kernel_rfl) (fun _ _ _ h=>h) (Or.inl ⟨by rfl,?_⟩) (by assumption) ?_;rotate_left 1
     ·(intro w hSw;(try dsimp only at hSw);go_simp<;>(with_reducible rfl))
     try simp only[Act.put,qA,qB,qC,qD,qE,qF]
     refine wpAnyH_take (i:=1) (v:=?_) rfl (by kernel_rfl) (by kernel_rfl) (by kernel_rfl) (fun _ _ _ h=>h) (Or.inl ⟨by rfl,?_⟩) (by assumption) ?_;rotate_left 1
     ·(intro w hSw;(try dsimp only at hSw);go_simp<;>(with_reducible rfl))
     try simp only[Act.put,qA,qB,qC,qD,qE,qF]
     refine wpAnyH_take (i:=3) (v:=?_) rfl (by kernel_rfl) (by kernel_rfl) (by kernel_rfl) (fun _ _ _ h=>h) (Or.inl ⟨by rfl,?_⟩) (by assumption) ?_;rotate_left 1
     ·(intro w hSw;(try dsimp only at hSw);go_simp<;>(with_reducible rfl))
     try simp only[Act.put,qA,qB,qC,qD,qE,qF]
     refine wpAnyH_take (i:=4) (v:=?_) rfl (by kernel_rfl) (by kernel_rfl) (by kernel_rfl) (fun _ _ _ h=>h) (Or.inl ⟨by rfl,?_⟩) (by assumption) ?_;rotate_left 1
     ·(intro w hSw;(try dsimp only at hSw);go_simp<;>(with_reducible rfl))
     try simp only[Act.put,qA,qB,qC,qD,qE,qF]
     refine wpAnyH_take (i:=6) (v:=?_) rfl (by kernel_rfl) (by kernel_rfl) (by kernel_rfl) (fun _ _ _ h=>h) (Or.inl ⟨by rfl,?_⟩) (by assumption) ?_;rotate_left 1
     ·(intro w hSw;(try dsimp only at hSw);go_simp<;>(with_reducible rfl))
     try simp only[Act.put,qA,qB,qC,qD,qE,qF]
     refine wpAnyH_take (i:=7) (v:=?_) rfl (by kernel_rfl) (by kernel_rfl) (by kernel_rfl) (fun _ _ _ h=>h) (Or.inl ⟨by rfl,?_⟩) (by assumption) ?_;rotate_left 1
     ·(intro w hSw;(try dsimp only at hSw);go_simp<;>(with_reducible rfl))
     try simp only[Act.put,qA,qB,qC,qD,qE,qF]
     refine wpAnyH_take (i:=9) (v:=?_) rfl (by kernel_rfl) (by kernel_rfl) (by kernel_rfl) (fun _ _ _ h=>h) (Or.inl ⟨by rfl,?_⟩) (by assumption) ?_;rotate_left 1
     ·(intro w hSw;(try dsimp only at hSw);go_simp<;>(with_reducible rfl))
     try simp only[Act.put,qA,qB,qC,qD,qE,qF]
     refine wpAnyH_take (i:=10) (v:=?_) rfl (by kernel_rfl) (by kernel_rfl) (by kernel_rfl) (fun _ _ _ h=>h) (Or.inl ⟨by rfl,?_⟩) (by assumption) ?_;rotate_left 1
     ·(intro w hSw;(try dsimp only at hSw);go_simp<;>(with_reducible rfl))
     try simp only[Act.put,qA,qB,qC,qD,qE,qF]
     refine wpAnyH_take (i:=11) (v:=?_) rfl (by kernel_rfl) (by kernel_rfl) (by kernel_rfl) (fun _ _ _ h=>h) (Or.inl ⟨by rfl,?_⟩) (by assumption) ?_;rotate_left 1
     ·(intro w hSw;(try dsimp only at hSw);go_simp<;>(with_reducible rfl))
     try simp only[Act.put,qA,qB,qC,qD,qE,qF]
     refine wpAnyH_take (i:=12) (v:=?_) rfl (by kernel_rfl) (by kernel_rfl) (by kernel_rfl) (fun _ _ _ h=>h) (Or.inl ⟨by rfl,?_⟩) (by assumption) ?_;rotate_left 1
     ·(intro w hSw;(try dsimp only at hSw);go_simp<;>(with_reducible rfl))
     try simp only[Act.put,qA,qB,qC,qD,qE,qF]
     refine wpAnyH_ready (rs:=[2]) (by kernel_rfl) (by simp) ?_;refine AllReadyH.cons rfl (fun K hK=>?_) AllReadyH.nil
     go_simp
     refine(held (W:=V3) hB.out (CA.out _) (by assumption)).mono ?_;rintro e x1 ⟨rfl,hb,hw⟩
     (try go_wp2_with fail)
     refine hK.out _ _ hw (fun hH1=>?_);clear hK hH0 hb hw
     try simp only[Act.put,qA,qB,qC,qD,qE,qF]
     refine wpAnyH_ready (rs:=[5]) (by kernel_rfl) (by simp) ?_;refine AllReadyH.cons rfl (fun K hK=>?_) AllReadyH.nil
     go_simp
     refine(held (W:=V3) hB.out (CU.out _) (by assumption)).mono ?_;rintro e x2 ⟨rfl,hb,hw⟩
     (try go_wp2_with fail)
     refine hK.out _ _ hw (fun hH2=>?_);clear hK hH1 hb hw
     try simp only[Act.put,qA,qB,qC,qD,qE,qF]
     refine wpAnyH_ready (rs:=[8]) (by kernel_rfl) (by simp) ?_;refine AllReadyH.cons rfl (fun K hK=>?_) AllReadyH.nil
     go_simp
     refine(held (W:=V3) hB.out (CM.out _) (by assumption)).mono ?_;rintro e x3 ⟨rfl,hb,hw⟩
     (try go_wp2_with fail)
     refine hK.out _ _ hw (fun hH3=>?_);clear hK hH2 hb hw
     try simp only[Act.put,qA,qB,qC,qD,qE,qF]
     refine wpAnyH_ready (rs:=[13]) (by kernel_rfl) (by simp) ?_;refine AllReadyH.cons rfl (fun K hK=>?_) AllReadyH.nil
     go_simp
     have hnew:=rowsLit (enc:=encKy) (k:=2) (fun _=>rfl) x3 [rd (X+Y),rd (X-Y),rd (X*Y),kq,kh,kl,ch] #[.string ⟨(rd (X+Y)).1.toArray⟩,.string ⟨(rd (X+Y)).2.toArray⟩,.string ⟨(rd (X-Y)).1.toArray⟩,.string ⟨(rd (X-Y)).2.toArray⟩,.string ⟨(rd (X*Y)).1.toArray⟩,.string ⟨(rd (X*Y)).2.toArray⟩,.string ⟨kq.1.toArray⟩,.string ⟨kq.2.toArray⟩,.string ⟨kh.1.toArray⟩,.string ⟨kh.2.toArray⟩,.string ⟨kl.1.toArray⟩,.string ⟨kl.2.toArray⟩,.string ⟨ch.1.toArray⟩,.string ⟨ch.2.toArray⟩] 28 rfl;have bb:Below x3.heap.size x3 (x3.alloc (.cells #[.string ⟨(rd (X+Y)).1.toArray⟩,.string ⟨(rd (X+Y)).2.toArray⟩,.string ⟨(rd (X-Y)).1.toArray⟩,.string ⟨(rd (X-Y)).2.toArray⟩,.string ⟨(rd (X*Y)).1.toArray⟩,.string ⟨(rd (X*Y)).2.toArray⟩,.string ⟨kq.1.toArray⟩,.string ⟨kq.2.toArray⟩,.string ⟨kh.1.toArray⟩,.string ⟨kh.2.toArray⟩,.string ⟨kl.1.toArray⟩,.string ⟨kl.2.toArray⟩,.string ⟨ch.1.toArray⟩,.string ⟨ch.2.toArray⟩] 28)):=Below.alloc (Below.refl _ _) (Nat.le_refl _) _;obtain⟨x4,hU⟩:∃U,x3.alloc (.cells #[.string ⟨(rd (X+Y)).1.toArray⟩,.string ⟨(rd (X+Y)).2.toArray⟩,.string ⟨(rd (X-Y)).1.toArray⟩,.string ⟨(rd (X-Y)).2.toArray⟩,.string ⟨(rd (X*Y)).1.toArray⟩,.string ⟨(rd (X*Y)).2.toArray⟩,.string ⟨kq.1.toArray⟩,.string ⟨kq.2.toArray⟩,.string ⟨kh.1.toArray⟩,.string ⟨kh.2.toArray⟩,.string ⟨kl.1.toArray⟩,.string ⟨kl.2.toArray⟩,.string ⟨ch.1.toArray⟩,.string ⟨ch.2.toArray⟩] 28)=U:=⟨_,rfl⟩;rw[hU]at hnew bb ⊢;have hw:Below V3.heap.size V3 x4:=Below.more hH3 bb;have Lw:=zh hnew;clear hnew hU;refine hK.out _ _ hw (fun hH4=>?_)
     clear hK hH3 bb hw
     try simp only[Act.put,qA,qB,qC,qD,qE,qF]
     refine wpAnyH_take (i:=14) (v:=?_) rfl (by kernel_rfl) (by kernel_rfl) (by kernel_rfl) (fun _ _ _ h=>h) (Or.inl ⟨by rfl,?_⟩) (by assumption) ?_;rotate_left 1
     ·(intro w hSw;(try dsimp only at hSw);go_simp<;>(with_reducible rfl))
     try simp only[Act.put,qA,qB,qC,qD,qE,qF]
     refine wpAnyH_done (by kernel_rfl) ?_ _;refine NoPanic.normal ?_;have bZ:=hH4;clear hH4;obtain⟨i,hi1,hi2⟩:=HLW.out;have hi7:i<7:=(List.getElem?_eq_some_iff.1 hi2).1;obtain⟨q0,q1⟩:=ky_rule Lw.out hi2;have rj0z:=rj0 _ bZ;have rj1z:=rj1 _ bZ
     have q0z:=q0 _ (Below.refl _ _);have q1z:=q1 _ (Below.refl _ _)
     have hw6:IntKind.i64.wrap (op-6)=(i:Int):=(IntWalk.i64_in _ (by omega)).trans hi1;have hw7:wrap64 (op-6)=(i:Int):=(IntWalk.wrap64_in _ (by omega)).trans hi1;have hi8:(i:Int)<7:=by omega
     have hi9:(0:Int)≤(i:Int):=by omega
     clear hi1 hi2;go_wp2_with fail
     go_quiet (fail)
     go_wp2_with fail;go_ret;exact⟨ret_bool (by simp),Below.more BW4.out (Below.drewN bZ _)⟩
  )
end Go.Proofs.YtghioekjghmdaaaGreatDoor
