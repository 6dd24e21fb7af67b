/- Own work. -/
import Derived.Test.YtcebkcilkhebeaaGreatDoorAllAc2
import Derived.Test.YtcebkcilkhebeaaGreatDoorActPrg
import Derived.Test.YtcebkcilkhebeaaGreatDoorAllRefA2M
import Derived.Deep.MidRow
set_option linter.unusedSimpArgs false
set_option linter.unusedVariables false
set_option maxHeartbeats 4000000
set_option maxRecDepth 100000
namespace Go.Proofs.YtcebkcilkhebeaaGreatDoor
open Go.RowKit
open Ac (oB rB cB wordK kindW hdW dyW otO otN Actn)
def LW(B:Nat)(L:List (List UInt8))(w:World):Prop:=∃ (p:Option Addr) (c:Nat),Blk B [.slice p L.length c] w∧L.length≤c∧Txs w p L∧(∀a,p=some a→a.block<B)∧∀x∈L,x.length≤1000000
theorem LW.below{B:Nat}{L:List (List UInt8)}{w w':World}(h:LW B L w)(hb:Below w.heap.size w w'):LW B L w':=by
 obtain⟨p,c,h1,h2,h3,h4⟩:=h;exact⟨p,c,h1.below hb,h2,h3.below hb,h4⟩
theorem LW.hd{B:Nat}{L:List (List UInt8)}{w:World}(h:LW B L w):(hdW L).length≤1000000:=by
 obtain⟨_,_,_,_,_,_,h5⟩:=h
 cases L with
 | nil=>exact Nat.zero_le _
 | cons x r=>exact h5 x (List.mem_cons_self ..)
theorem LW.lt{B:Nat}{L:List (List UInt8)}{w:World}(h:LW B L w):B<w.heap.size:=by
 obtain⟨_,_,h1,_⟩:=h;exact h1.lt
theorem LW.cell{B:Nat}{L:List (List UInt8)}{w:World}(h:LW B L w):∃ (p:Option Addr) (c:Nat),w.cell? ⟨B,0,none⟩=some (.slice p L.length c):=by
 obtain⟨p,c,h1,_⟩:=h;exact⟨p,c,h1.c 0 _ rfl⟩
theorem txs_tail{w:World}{b o:Nat}{x:List UInt8}{l:List (List UInt8)}(h:Txs w (some ⟨b,o,none⟩) (x::l)):Txs w (some ⟨b,o+1,none⟩) l:=fun j y hy=>by
 obtain⟨b',o',e,hl,c⟩:=h (j+1) y hy
 cases e
 exact⟨b,o+1,rfl,hl,fun i v hv=>by have:=c i v hv;rw[show o+1+j*1+i=o+(j+1)*1+i by omega];exact this⟩
def GiveLw(B:Nat)(w:World)(v:Value)(L:List (List UInt8))(e:Ending)(w':World):Prop:=e=.returned v∧WrB [B] w w'∧LW B L w'
theorem anext_any(B:Nat)(L:List (List UInt8))(w:World)(h:LW B L w):Calls Tryz.prog 19 #[.pointer (some ⟨B,0,none⟩)] w (GiveLw B w (.string ⟨(hdW L).toArray⟩) L.tail):=by
 cases L with
 | nil =>
  have HL:=zh h;obtain⟨p,c,l0⟩:=h.cell;clear h;go_enter Tryz.func19,Tryz.ntmps19;go_wp2_with fail;go_ret;exact⟨rfl,WrB.refl _ _,HL.out⟩
 | cons s r =>
  obtain⟨p,c,hB,hc,hT,hne,hsz⟩:=h;obtain⟨b,o,rfl,hr⟩:=tx_rule hT (k:=0) (x:=s) rfl;have hb:b<B:=hne _ rfl;have l0:w.cell? ⟨B,0,none⟩=some (.slice (some ⟨b,o,none⟩) (r.length+1) c):=hB.c 0 _ rfl;have f0:=hB.f 0 (Nat.zero_lt_one);have x0:w.cell? ⟨b,o,none⟩=some (.string ⟨s.toArray⟩):=hr w (Below.refl _ _);have hc:r.length+1≤c:=hc;have HB:=zh hB;have HT:=zh hT;have HN:=zh hb;have HZ:=zh (fun x hx=>hsz x (List.mem_cons_of_mem _ hx))
  clear hB hT hne hr hb hsz;by_cases h1:c=1
  ·subst h1;obtain rfl:r=[]:=List.eq_nil_of_length_eq_zero (by omega);go_enter Tryz.func19,Tryz.ntmps19;go_wp2_with fail;go_ret;exact⟨rfl,WrB.of_set _ _ _ _ (List.mem_singleton.2 rfl),_,0,HB.out.set 0 Nat.zero_lt_one _,Nat.le_refl _,RowsG.nil _ _,fun a e=>by cases e;exact HN.out,HZ.out⟩
  go_enter Tryz.func19,Tryz.ntmps19;go_wp2_with fail;go_ret;refine⟨rfl,WrB.of_set _ _ _ _ (List.mem_singleton.2 rfl),?_⟩;have hS:=HB.out.set 0 Nat.zero_lt_one (.slice (some ⟨b,o+1,none⟩) r.length (c-1));exact⟨_,c-1,hS,by show r.length≤c-1;omega,RowsG.wr (txs_tail HT.out) (WrB.of_set w B 0 _ (List.mem_singleton.2 rfl)) (fun a e=>by cases e;exact fun k=>Nat.ne_of_lt HN.out (List.mem_singleton.1 k)),fun a e=>by cases e;exact HN.out,HZ.out⟩
theorem sh_0(w:World):(Instr.index 45 (.agg acL.toArray) (.int .i64 0)).run Tryz.prog w=.ok (.agg #[.string ⟨#[115,112,108,105,116]⟩,.bool false,.int .i64 1,.int .i64 0]) w:=by kernel_rfl
theorem sh_1(w:World):(Instr.index 45 (.agg acL.toArray) (.int .i64 1)).run Tryz.prog w=.ok (.agg #[.string ⟨#[115,116,111,99,107]⟩,.bool false,.int .i64 1,.int .i64 0]) w:=by kernel_rfl
theorem sh_2(w:World):(Instr.index 45 (.agg acL.toArray) (.int .i64 2)).run Tryz.prog w=.ok (.agg #[.string ⟨#[99,97,115,104]⟩,.bool false,.int .i64 0,.int .i64 1]) w:=by kernel_rfl
theorem sh_3(w:World):(Instr.index 45 (.agg acL.toArray) (.int .i64 3)).run Tryz.prog w=.ok (.agg #[.string ⟨#[115,112,105,110]⟩,.bool true,.int .i64 1,.int .i64 0]) w:=by kernel_rfl
theorem sh_4(w:World):(Instr.index 45 (.agg acL.toArray) (.int .i64 4)).run Tryz.prog w=.ok (.agg #[.string ⟨#[109,101,114,103,101,114]⟩,.bool true,.int .i64 1,.int .i64 2]) w:=by kernel_rfl
theorem kind_hit{x:List UInt8}{k:Nat}(h:k<5)(e:x=wordK k):kindW x=k:=by
 subst e;rcases(show k=0∨k=1∨k=2∨k=3∨k=4 by omega) with rfl|rfl|rfl|rfl|rfl<;>decide
theorem kind_miss{x:List UInt8}(h:∀k:Nat,k<5→x≠wordK k):kindW x=-1:=by
 unfold kindW;rw[if_neg (show x≠wordK 0 from h 0 (by decide)),if_neg (show x≠wordK 1 from h 1 (by decide)),if_neg (show x≠wordK 2 from h 2 (by decide)),if_neg (show x≠wordK 3 from h 3 (by decide)),if_neg (show x≠wordK 4 from h 4 (by decide))]
theorem akind_any(B:Nat)(L:List (List UInt8))(w:World)(w0:World)(h:LW B L w)(hg:GoodA w0)(hb:Below w0.heap.size w0 w)(hB:w0.heap.size≤B):Calls Tryz.prog 18 #[.pointer (some ⟨B,0,none⟩)] w (GiveLw B w (.int .i64 (kindW (hdW L))) L.tail):=by
 have CN:=zh (anext_any B L w h);have HG:=zh hg;have HB:=zh hb;have HL:=zh hB
 have HKH:=zh (fun (k:Nat) (h:k<5) (e:hdW L=wordK k)=>kind_hit h e);have HKM:=zh (kind_miss (x:=hdW L));clear h hg hb hB;generalize kindW (hdW L)=kv at *;generalize hdW L=x at *;go_enter Tryz.func18,Tryz.ntmps18;go_wp2_with fail;refine CN.out.mono ?_;rintro e w1 ⟨rfl,hr,hq⟩;have HR:=zh hr;have HQ:=zh hq
 have HG1:=zh (HG.out.below (HB.out.trans (hr.below (fun x hx=>by rw[List.mem_singleton.1 hx];exact HL.out) HB.out.size)));clear hr hq CN;have S0:=zh sh_0;have S1:=zh sh_1;have S2:=zh sh_2;have S3:=zh sh_3;have S4:=zh sh_4
 have HR5:Hid (w1.rangeAt 0 0 acL):=zh (fun j v e=>by rw[Nat.zero_add];exact HG1.out.sh j v e)
 go_upto_region 2 with fail
 refine wp_region_lit ?_;refine wpList_load_mid rfl 45 _ rfl 0 0 rfl acL _ HR5.out Tryz.underlying45 rfl (by kernel_rfl) ?_;generalize Value.agg acL.toArray=ag at *;clear HR5;go_wp2_with fail
 go_loopw [9] (fun i V=>∃k:Nat,k≤5∧i=.int .i64 k∧Hid (∀j:Nat,j<k→x≠wordK j)∧Below w1.heap.size w1 V) (fun i _=>5-(intOf i).toNat)
 case atStart=>exact⟨0,Nat.zero_le _,rfl,zh (fun j hj=>absurd hj (Nat.not_lt_zero _)),Below.refl _ _⟩
 case round =>
  obtain⟨k,hk,rfl,HM,hbw⟩:=hrel;rcases(show k=0∨k=1∨k=2∨k=3∨k=4∨k=5 by omega) with rfl|rfl|rfl|rfl|rfl|rfl
  ·by_cases hx:x=[115,112,108,105,116]
   ·have HK:Hid (kv=0):=zh (HKH.out 0 (by decide) hx);subst hx;go_wp2_with fail;rw[S0.out];go_wp2_with fail;obtain⟨U,hU,bU,_,kk⟩:=layN (Below.refl wr.heap.size wr) #[.string ⟨#[115,112,108,105,116]⟩,.bool false,.int .i64 1,.int .i64 0] 44;rw[hU];clear hU;have b9:=Below.refl U.heap.size U;have j0:=kk 0 _ rfl;clear kk;go_wp2_with fail;go_ret;exact⟨by rw[HK.out];rfl,HR.out.trans (WrB.of_below (Below.more hbw bU) _),HQ.out.below (Below.more hbw bU)⟩
   ·have hq:(([115,112,108,105,116]:List UInt8)==x)=false:=by rw[beq_eq_false_iff_ne];exact fun c=>hx c.symm
    go_wp2_with fail;rw[S0.out];go_wp2_with fail;go_roundw
    case rel=>exact⟨1,by decide,rfl,zh (fun k hk=>by rcases(show k<0∨k=0 by omega) with c|rfl;exact HM.out k c;exact hx),Below.alloc hbw (Below.size hbw) _⟩
    case measure=>simp[intOf]
  ·by_cases hx:x=[115,116,111,99,107]
   ·have HK:Hid (kv=1):=zh (HKH.out 1 (by decide) hx);subst hx;go_wp2_with fail;rw[S1.out];go_wp2_with fail;obtain⟨U,hU,bU,_,kk⟩:=layN (Below.refl wr.heap.size wr) #[.string ⟨#[115,116,111,99,107]⟩,.bool false,.int .i64 1,.int .i64 0] 44;rw[hU];clear hU;have b9:=Below.refl U.heap.size U;have j0:=kk 0 _ rfl;clear kk;go_wp2_with fail;go_ret;exact⟨by rw[HK.out];rfl,HR.out.trans (WrB.of_below (Below.more hbw bU) _),HQ.out.below (Below.more hbw bU)⟩
   ·have hq:(([115,116,111,99,107]:List UInt8)==x)=false:=by rw[beq_eq_false_iff_ne];exact fun c=>hx c.symm
    go_wp2_with fail;rw[S1.out];go_wp2_with fail;go_roundw
    case rel=>exact⟨2,by decide,rfl,zh (fun k hk=>by rcases(show k<1∨k=1 by omega) with c|rfl;exact HM.out k c;exact hx),Below.alloc hbw (Below.size hbw) _⟩
    case measure=>simp[intOf]
  ·by_cases hx:x=[99,97,115,104]
   ·have HK:Hid (kv=2):=zh (HKH.out 2 (by decide) hx);subst hx;go_wp2_with fail;rw[S2.out];go_wp2_with fail;obtain⟨U,hU,bU,_,kk⟩:=layN (Below.refl wr.heap.size wr) #[.string ⟨#[99,97,115,104]⟩,.bool false,.int .i64 0,.int .i64 1] 44;rw[hU];clear hU;have b9:=Below.refl U.heap.size U;have j0:=kk 0 _ rfl;clear kk;go_wp2_with fail;go_ret;exact⟨by rw[HK.out];rfl,HR.out.trans (WrB.of_below (Below.more hbw bU) _),HQ.out.below (Below.more hbw bU)⟩
   ·have hq:(([99,97,115,104]:List UInt8)==x)=false:=by rw[beq_eq_false_iff_ne];exact fun c=>hx c.symm
    go_wp2_with fail;rw[S2.out];go_wp2_with fail;go_roundw
    case rel=>exact⟨3,by decide,rfl,zh (fun k hk=>by rcases(show k<2∨k=2 by omega) with c|rfl;exact HM.out k c;exact hx),Below.alloc hbw (Below.size hbw) _⟩
    case measure=>simp[intOf]
  ·by_cases hx:x=[115,112,105,110]
   ·have HK:Hid (kv=3):=zh (HKH.out 3 (by decide) hx);subst hx;go_wp2_with fail;rw[S3.out];go_wp2_with fail;obtain⟨U,hU,bU,_,kk⟩:=layN (Below.refl wr.heap.size wr) #[.string ⟨#[115,112,105,110]⟩,.bool true,.int .i64 1,.int .i64 0] 44;rw[hU];clear hU;have b9:=Below.refl U.heap.size U;have j0:=kk 0 _ rfl;clear kk;go_wp2_with fail;go_ret;exact⟨by rw[HK.out];rfl,HR.out.trans (WrB.of_below (Below.more hbw bU) _),HQ.out.below (Below.more hbw bU)⟩
   ·have hq:(([115,112,105,110]:List UInt8)==x)=false:=by rw[beq_eq_false_iff_ne];exact fun c=>hx c.symm
    go_wp2_with fail;rw[S3.out];go_wp2_with fail;go_roundw
    case rel=>exact⟨4,by decide,rfl,zh (fun k hk=>by rcases(show k<3∨k=3 by omega) with c|rfl;exact HM.out k c;exact hx),Below.alloc hbw (Below.size hbw) _⟩
    case measure=>simp[intOf]
  ·by_cases hx:x=[109,101,114,103,101,114]
   ·have HK:Hid (kv=4):=zh (HKH.out 4 (by decide) hx);subst hx;go_wp2_with fail;rw[S4.out];go_wp2_with fail;obtain⟨U,hU,bU,_,kk⟩:=layN (Below.refl wr.heap.size wr) #[.string ⟨#[109,101,114,103,101,114]⟩,.bool true,.int .i64 1,.int .i64 2] 44;rw[hU];clear hU;have b9:=Below.refl U.heap.size U;have j0:=kk 0 _ rfl;clear kk;go_wp2_with fail;go_ret;exact⟨by rw[HK.out];rfl,HR.out.trans (WrB.of_below (Below.more hbw bU) _),HQ.out.below (Below.more hbw bU)⟩
   ·have hq:(([109,101,114,103,101,114]:List UInt8)==x)=false:=by rw[beq_eq_false_iff_ne];exact fun c=>hx c.symm
    go_wp2_with fail;rw[S4.out];go_wp2_with fail;go_roundw
    case rel=>exact⟨5,by decide,rfl,zh (fun k hk=>by rcases(show k<4∨k=4 by omega) with c|rfl;exact HM.out k c;exact hx),Below.alloc hbw (Below.size hbw) _⟩
    case measure=>simp[intOf]
  ·have HK:Hid (kv=-1):=zh (HKM.out HM.out);go_wp2_with fail;go_ret;exact⟨by rw[HK.out];rfl,HR.out.trans (WrB.of_below hbw _),HQ.out.below hbw⟩
theorem aday_any(B:Nat)(L:List (List UInt8))(w:World)(w0:World)(h:LW B L w)(hg:GoodA w0)(hb:Below w0.heap.size w0 w)(hB:w0.heap.size≤B):Calls Tryz.prog 20 #[.pointer (some ⟨B,0,none⟩)] w (GiveLw B w (.int .i64 (dyW (hdW L))) L.tail):=by
 have CN:=zh (anext_any B L w h);have hl:=h.hd;have HG:=zh hg;have HB:=zh hb;have HL:=zh hB
 have CS:Hid (∀V,GoodE V→Calls Tryz.prog 44 #[.string ⟨(hdW L).toArray⟩] V (GiveIB V (smallS (hdW L)))):=zh (fun V he=>by
  obtain⟨tp,q,hv⟩:=he;exact small_any ⟨(hdW L).toArray⟩ V (by rw[size_of];omega) tp q hv)
 have HE:=zh (show dyW (hdW L)=if (smallS (hdW L)).2 then (smallS (hdW L)).1 else -1 from rfl);clear h hg hb hB hl;generalize hdW L=x at *;generalize smallS x=y at *;obtain⟨n,is⟩:=y
 cases is<;>(
 go_enter Tryz.func20,Tryz.ntmps20;go_wp2_with fail;refine CN.out.mono ?_;rintro e w1 ⟨rfl,hr,hq⟩;have HR:=zh hr;have HQ:=zh hq
 have HG1:=zh (HG.out.below (HB.out.trans (hr.below (fun x hx=>by rw[List.mem_singleton.1 hx];exact HL.out) HB.out.size)));clear hr hq CN;go_wp2_with fail;refine(CS.out _ HG1.out.er).mono ?_;rintro e w2 ⟨rfl,b2⟩;go_wp2_with fail;go_ret;exact⟨by rw[HE.out];rfl,HR.out.trans (WrB.of_below b2 _),HQ.out.below b2⟩)
theorem atake_any(B:Nat)(L:List (List UInt8))(b:Bool)(w:World)(h:LW B L w):Calls Tryz.prog 21 #[.pointer (some ⟨B,0,none⟩),.bool b] w (GiveLw B w (.string ⟨(otO b L).1.toArray⟩) (otO b L).2):=by
 have CN:=zh (anext_any B L w h);have HL:=zh h;clear h
 cases b with
 | false =>
  go_enter Tryz.func21,Tryz.ntmps21;go_wp2_with fail;go_ret;exact⟨rfl,WrB.refl _ _,HL.out⟩
 | true =>
  go_enter Tryz.func21,Tryz.ntmps21;go_wp2_with fail;refine CN.out.mono ?_;rintro e w1 ⟨rfl,hr,hq⟩;have HR:=zh hr;have HQ:=zh hq
  clear hr hq;go_wp2_with fail;go_ret;exact⟨rfl,HR.out,HQ.out⟩
theorem anumber_any(B:Nat)(L:List (List UInt8))(m:Int)(w:World)(w0:World)(h:LW B L w)(hg:GoodA w0)(hb:Below w0.heap.size w0 w)(hB:w0.heap.size≤B):Calls Tryz.prog 22 #[.pointer (some ⟨B,0,none⟩),.int .i64 m] w (GiveLw B w (.agg #[.string ⟨(otN (!decide (m=0)) L).1.1.toArray⟩,.string ⟨(otN (!decide (m=0)) L).1.2.toArray⟩]) (otN (!decide (m=0)) L).2):=by
 have CZ:Hid (∀V,GoodT V→Calls Tryz.prog 45 #[.int .i64 0] V (GiveR V ([48],[49]))):=zh (fun V g=>by
  have h:=qOf 0 (by decide) (by decide) V g;rw[show rdN ((0:Int):Rat)=[48] by decide +kernel,show rdD ((0:Int):Rat)=[49] by decide +kernel]at h;exact h)
 have hl:=h.hd;have CP:Hid (∀V,GoodD V→Calls Tryz.prog 46 #[.string ⟨(hdW L).toArray⟩] V (GiveRE V (parS (hdW L)))):=zh (fun V g=>parse_any ⟨(hdW L).toArray⟩ V (by rw[size_of];omega) g);have HG:=zh hg;have HB:=zh hb;have HL:=zh hB;have HW:=zh h
 clear h hg hb hB hl;by_cases hm:m=0
 ·subst hm;go_enter Tryz.func22,Tryz.ntmps22;go_wp2_with fail;have bA:Below w.heap.size w (w.alloc (.cells #[.string ⟨#[]⟩,.string ⟨#[]⟩] 23)):=Below.alloc (Below.refl _ _) (Nat.le_refl _) _;have hz:=zc_new w (.string ⟨#[]⟩) (.string ⟨#[]⟩) 23;generalize hU:w.alloc (.cells #[.string ⟨#[]⟩,.string ⟨#[]⟩] 23)=U at *;clear hU;have HZ:=zh hz;have HA:=zh bA;clear hz bA;go_wp2_with fail;refine(CZ.out _ (HG.out.below (HB.out.trans (HA.out.mono HB.out.size))).tab).mono ?_;rintro e w1 ⟨rfl,b1⟩;have z:=HZ.out.below b1;have z0:=z.c0;have z1:=z.c1;have z2:=z.f0;have z3:=z.f1
  have HA1:=zh (Below.more HA.out b1);clear z;go_wp2_with fail;refine bodyPost_ret (v:=.agg #[.string ⟨#[48]⟩,.string ⟨#[49]⟩]) (by simp[results,Tryz.results22,go_sem, *]) rfl ?_;have hE:Below w.heap.size w ((w1.setCell ⟨w.heap.size,0,none⟩ (.string ⟨#[48]⟩)).setCell ⟨w.heap.size,1,none⟩ (.string ⟨#[49]⟩)):=put2 HA1.out (Nat.le_refl _) _ _;exact⟨rfl,WrB.of_below hE _,HW.out.below hE⟩
 ·have hd:(!decide (m=0))=true:=by rw[decide_eq_false hm];rfl
  rw[hd];have HE:=zh (show otN true L=((parS (hdW L)).1,L.tail) from rfl);rw[HE.out];clear hd HE;generalize parS (hdW L)=y at *;obtain⟨⟨yn,yd⟩,ye⟩:=y;go_enter Tryz.func22,Tryz.ntmps22;go_wp2_with fail;have bA:Below w.heap.size w (w.alloc (.cells #[.string ⟨#[]⟩,.string ⟨#[]⟩] 23)):=Below.alloc (Below.refl _ _) (Nat.le_refl _) _;have hz:=zc_new w (.string ⟨#[]⟩) (.string ⟨#[]⟩) 23;generalize hU:w.alloc (.cells #[.string ⟨#[]⟩,.string ⟨#[]⟩] 23)=U at *;clear hU;have HZ:=zh hz;have HA:=zh bA;have CN:=zh (anext_any B L U (HW.out.below bA));clear hz bA;go_wp2_with fail;refine CN.out.mono ?_;rintro e w1 ⟨rfl,hr,hq⟩;have HR:=zh hr;have HQ:=zh hq
  have hb1:Below w0.heap.size w0 w1:=(HB.out.trans (HA.out.mono HB.out.size)).trans (hr.below (fun x hx=>by rw[List.mem_singleton.1 hx];exact HL.out) (HB.out.trans (HA.out.mono HB.out.size)).size);have HG1:=zh (HG.out.below hb1);have HZ1:Hid (Zc w.heap.size (.string ⟨#[]⟩) (.string ⟨#[]⟩) w1):=zh (by
   have hne:w.heap.size∉[B]:=fun c=>Nat.ne_of_gt HW.out.lt (List.mem_singleton.1 c);have e:w1.heap[w.heap.size]?=U.heap[w.heap.size]?:=hr.block _ HZ.out.lt hne;exact⟨(World.cell?_of_block (w:=U) (a:=⟨w.heap.size,0,none⟩) e).trans HZ.out.c0,(World.cell?_of_block (w:=U) (a:=⟨w.heap.size,1,none⟩) e).trans HZ.out.c1,(World.frozen?_of_block (w:=U) (a:=⟨w.heap.size,0,none⟩) e).trans HZ.out.f0,(World.frozen?_of_block (w:=U) (a:=⟨w.heap.size,1,none⟩) e).trans HZ.out.f1,Nat.lt_of_lt_of_le HZ.out.lt hr.size⟩)
  clear hr hq CN hb1;go_wp2_with fail;refine(CP.out _ HG1.out.dec).mono ?_;rintro e w2 ⟨rfl,b2⟩;have HQ2:=zh (HQ.out.below b2);have HR2:=zh (HR.out.trans (WrB.of_below b2 [B]));have HZ2:=zh (HZ1.out.below b2);clear b2;have bA2:Below w2.heap.size w2 (w2.alloc (.cells #[.string ⟨yn.toArray⟩,.string ⟨yd.toArray⟩] 23)):=Below.alloc (Below.refl _ _) (Nat.le_refl _) _;have z:=HZ2.out.below bA2;have z0:=z.c0;have z1:=z.c1;have z2:=z.f0;have z3:=z.f1
  have HB3:=zh bA2;clear z bA2;go_wp2_with fail;refine bodyPost_ret (v:=.agg #[.string ⟨yn.toArray⟩,.string ⟨yd.toArray⟩]) (by simp[results,Tryz.results22,go_sem, *]) rfl ?_;clear z0 z1 z2 z3;generalize w2.alloc (.cells #[.string ⟨yn.toArray⟩,.string ⟨yd.toArray⟩] 23)=W3 at *;have hE:Below w.heap.size W3 ((W3.setCell ⟨w.heap.size,0,none⟩ (.string ⟨yn.toArray⟩)).setCell ⟨w.heap.size,1,none⟩ (.string ⟨yd.toArray⟩)):=put2 (Below.refl _ _) (Nat.le_refl _) _ _;have h3:WrB [B] w W3:=((WrB.of_below HA.out [B]).trans HR2.out).trans (WrB.of_below HB3.out [B]);refine⟨rfl,⟨hE.os.trans h3.os,hE.tape.trans h3.tape,hE.output.trans h3.output,Nat.le_trans h3.size hE.size,fun k hk hn=>(hE.block k hk).trans (h3.block k hk hn)⟩,?_⟩;obtain⟨p,c,q1,q2,q3,q4⟩:=HQ2.out.below HB3.out;have hX:WrB [w.heap.size] W3 ((W3.setCell ⟨w.heap.size,0,none⟩ (.string ⟨yn.toArray⟩)).setCell ⟨w.heap.size,1,none⟩ (.string ⟨yd.toArray⟩)):=(WrB.of_set _ _ _ _ (List.mem_singleton.2 rfl)).trans (WrB.of_set _ _ _ _ (List.mem_singleton.2 rfl));exact⟨p,c,q1.wr hX (fun k=>Nat.ne_of_lt HW.out.lt (List.mem_singleton.1 k)),q2,q3.wr hX (fun a e k=>Nat.ne_of_lt (Nat.lt_trans (q4.1 a e) HW.out.lt) (List.mem_singleton.1 k)),q4⟩
end Go.Proofs.YtcebkcilkhebeaaGreatDoor
