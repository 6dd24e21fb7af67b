/- Own work. -/
import Derived.Test.YthgopcnagecbaaaGreatDoorPkLiM
import Derived.Test.YthgopcnagecbaaaGreatDoorAllRefK4
set_option linter.unusedSimpArgs false
set_option linter.unusedVariables false
set_option maxHeartbeats 4000000
set_option maxRecDepth 100000
namespace Go.Proofs.YthgopcnagecbaaaGreatDoor
open Go.RowKit
open Pk (Part Pack mayP valueP keepsP ofP)
theorem blk_put3{b:Nat}{y0 y1 y2:Value}{w:World}(h:Blk b [y0,y1,y2] w)(x y z:Value):Blk b [x,y,z] (((w.setCell ⟨b,0,none⟩ x).setCell ⟨b,1,none⟩ y).setCell ⟨b,2,none⟩ z) :=
 ((h.set 0 (by simp) x).set 1 (by simp) y).set 2 (by simp) z
theorem blk_oth3{b c:Nat}{cs:List Value}{w:World}(h:Blk c cs w)(hn:c≠b)(x y z:Value):Blk c cs (((w.setCell ⟨b,0,none⟩ x).setCell ⟨b,1,none⟩ y).setCell ⟨b,2,none⟩ z) :=
 h.wr (((WrB.of_set w b 0 x (List.mem_singleton.2 rfl)).trans (WrB.of_set _ b 1 y (List.mem_singleton.2 rfl))).trans (WrB.of_set _ b 2 z (List.mem_singleton.2 rfl))) (fun c=>hn (List.mem_singleton.1 c))
theorem blk_put2{b:Nat}{y0 y1:Value}{w:World}(h:Blk b [y0,y1] w)(x y:Value):Blk b [x,y] ((w.setCell ⟨b,0,none⟩ x).setCell ⟨b,1,none⟩ y):=(h.set 0 (by simp) x).set 1 (by simp) y
theorem blk_oth2{b c:Nat}{cs:List Value}{w:World}(h:Blk c cs w)(hn:c≠b)(x y:Value):Blk c cs ((w.setCell ⟨b,0,none⟩ x).setCell ⟨b,1,none⟩ y) :=
 h.wr ((WrB.of_set w b 0 x (List.mem_singleton.2 rfl)).trans (WrB.of_set _ b 1 y (List.mem_singleton.2 rfl))) (fun c=>hn (List.mem_singleton.1 c))
theorem pts_oth3{w:World}{p:Option Addr}{l:List Part}{X:Nat}(h:Pts w p l)(hp:∀a,p=some a→a.block≠X)(x y z:Value):Pts (((w.setCell ⟨X,0,none⟩ x).setCell ⟨X,1,none⟩ y).setCell ⟨X,2,none⟩ z) p l:=by
 have g:=((WrB.of_set w X 0 x (List.mem_singleton.2 rfl)).trans (WrB.of_set _ X 1 y (List.mem_singleton.2 rfl))).trans (WrB.of_set _ X 2 z (List.mem_singleton.2 rfl));exact RowsG.wr h g fun a e c=>hp a e (List.mem_singleton.1 c)
theorem rows_litP(w:World)(l:List Part)(cs:Array Value)(hc:cs.toList=l.flatMap encPt):Pts (w.alloc (.cells cs 45)) (some ⟨w.heap.size,0,none⟩) l:=fun j x hx=>by
 refine⟨w.heap.size,0,rfl,by simp,fun i v hv=>?_⟩;rw[Nat.zero_add];exact(cell_new w _ _ _ rfl _).trans (by rw[←Array.getElem?_toList,hc];exact flat_get (enc:=encPt) (k:=3) (fun _=>rfl) hx hv)
theorem ref_no(k:Int)(nm ast oth rn rd cn cd:List UInt8)(ex rc pay:Int)(w:World)(hs:SzA ⟨nm,k,ast,oth,(rn,rd),(cn,cd),ex,rc,pay⟩)(hm:Ac.mayA ⟨nm,k,ast,oth,(rn,rd),(cn,cd),ex,rc,pay⟩=false):Calls Tryz.prog 16 #[.agg #[.string ⟨nm.toArray⟩,.int .i64 k,.string ⟨ast.toArray⟩,.string ⟨oth.toArray⟩,.string ⟨rn.toArray⟩,.string ⟨rd.toArray⟩,.string ⟨cn.toArray⟩,.string ⟨cd.toArray⟩,.int .i64 ex,.int .i64 rc,.int .i64 pay]] w (GivePk w (ofP ⟨nm,k,ast,oth,(rn,rd),(cn,cd),ex,rc,pay⟩)):=by
 have HE:Hid (ofP ⟨nm,k,ast,oth,(rn,rd),(cn,cd),ex,rc,pay⟩=⟨[],([],[])⟩):=zh (by unfold ofP;rw[hm];rfl);have CM:=zh (fun V=>acmay_any ⟨nm,k,ast,oth,(rn,rd),(cn,cd),ex,rc,pay⟩ V hs);rw[hm]at CM;clear hm hs;go_enter Tryz.func16,Tryz.ntmps16;go_wp2_with fail;obtain⟨W,hW,BW,sW,kk⟩:=layN (Below.refl w.heap.size w) #[.string ⟨nm.toArray⟩,.int .i64 k,.string ⟨ast.toArray⟩,.string ⟨oth.toArray⟩,.string ⟨rn.toArray⟩,.string ⟨rd.toArray⟩,.string ⟨cn.toArray⟩,.string ⟨cd.toArray⟩,.int .i64 ex,.int .i64 rc,.int .i64 pay] 25;rw[hW];clear hW;have hX:=blk_new W #[.slice none 0 0,.string ⟨#[]⟩,.string ⟨#[]⟩] 28;have bX:Below W.heap.size W (W.alloc (.cells #[.slice none 0 0,.string ⟨#[]⟩,.string ⟨#[]⟩] 28)):=Below.alloc (Below.refl _ _) (Nat.le_refl _) _;have hXU:W.heap.size<(W.alloc (.cells #[.slice none 0 0,.string ⟨#[]⟩,.string ⟨#[]⟩] 28)).heap.size:=by simp
 obtain⟨U,hU⟩:∃U,W.alloc (.cells #[.slice none 0 0,.string ⟨#[]⟩,.string ⟨#[]⟩] 28)=U:=⟨_,rfl⟩;rw[hU]at hX bX hXU ⊢;clear hU;rw[←sW]at hX;have HXU:Hid (w.heap.size+1<U.heap.size):=zh (by omega);have hle2:w.heap.size≤w.heap.size+1:=by omega
 have p0:∀v,Below U.heap.size U v→_:=fun v hv=>kk 0 _ rfl v (Below.more bX hv);have p1:∀v,Below U.heap.size U v→_:=fun v hv=>kk 1 _ rfl v (Below.more bX hv);have p2:∀v,Below U.heap.size U v→_:=fun v hv=>kk 2 _ rfl v (Below.more bX hv);have p3:∀v,Below U.heap.size U v→_:=fun v hv=>kk 3 _ rfl v (Below.more bX hv);have p4:∀v,Below U.heap.size U v→_:=fun v hv=>kk 4 _ rfl v (Below.more bX hv);have p5:∀v,Below U.heap.size U v→_:=fun v hv=>kk 5 _ rfl v (Below.more bX hv);have p6:∀v,Below U.heap.size U v→_:=fun v hv=>kk 6 _ rfl v (Below.more bX hv);have p7:∀v,Below U.heap.size U v→_:=fun v hv=>kk 7 _ rfl v (Below.more bX hv);have p8:∀v,Below U.heap.size U v→_:=fun v hv=>kk 8 _ rfl v (Below.more bX hv);have p9:∀v,Below U.heap.size U v→_:=fun v hv=>kk 9 _ rfl v (Below.more bX hv);have p10:∀v,Below U.heap.size U v→_:=fun v hv=>kk 10 _ rfl v (Below.more bX hv)
 have HBU:=zh (Below.more BW bX);clear kk hXU sW bX BW;have b0:=Below.refl U.heap.size U
 (try go_wp2_with fail)
 refine(CM.out _).mono ?_;rintro e1 u1 ⟨rfl,b⟩;have hX1:=hX.below b;have y0:=hX1.c 0 _ rfl;have y1:=hX1.c 1 _ rfl;have y2:=hX1.c 2 _ rfl
 have z0:=hX1.f 0 (by simp);have z1:=hX1.f 1 (by simp);have z2:=hX1.f 2 (by simp)
 clear hX1 p0 p1 p2 p3 p4 p5 p6 p7 p8 p9 p10;go_wp2_with fail;refine bodyPost_ret (v:=.agg #[.slice none 0 0,.string ⟨#[]⟩,.string ⟨#[]⟩]) (by simp[results,Tryz.results16,go_sem, *]) rfl ⟨⟨none,0,by rw[HE.out];rfl,by rw[HE.out];exact Nat.le_refl _,by rw[HE.out];exact RowsG.nil _ _⟩,?_⟩;exact Below.setCell (Below.setCell (Below.setCell (Below.more HBU.out b) (hle2) _) (hle2) _) (hle2) _
theorem ref_yes(k:Int)(nm ast oth rn rd cn cd:List UInt8)(ex rc pay:Int)(w:World)(hs:SzA ⟨nm,k,ast,oth,(rn,rd),(cn,cd),ex,rc,pay⟩)(hm:Ac.mayA ⟨nm,k,ast,oth,(rn,rd),(cn,cd),ex,rc,pay⟩=true):Calls Tryz.prog 16 #[.agg #[.string ⟨nm.toArray⟩,.int .i64 k,.string ⟨ast.toArray⟩,.string ⟨oth.toArray⟩,.string ⟨rn.toArray⟩,.string ⟨rd.toArray⟩,.string ⟨cn.toArray⟩,.string ⟨cd.toArray⟩,.int .i64 ex,.int .i64 rc,.int .i64 pay]] w (GivePk w (ofP ⟨nm,k,ast,oth,(rn,rd),(cn,cd),ex,rc,pay⟩)):=by
 have hk:=(Pk.may_parts hm).2.2.1;dsimp only at hk;obtain⟨⟨r1,r2⟩,hr⟩:∃r:Key,(if k=0 then (rn,rd) else if k=1 then addR ([49],[49]) (rn,rd) else ([49],[49]))=r:=⟨_,rfl⟩;have HE0:Hid (ofP ⟨nm,k,ast,oth,(rn,rd),(cn,cd),ex,rc,pay⟩=if k<3 then ⟨[(ast,(r1,r2))],(cn,cd)⟩ else if k=4 then ⟨[(oth,(rn,rd))],(cn,cd)⟩ else if Op.bytesLess ast oth then ⟨[(ast,(r1,r2)),(oth,(rn,rd))],(cn,cd)⟩ else ⟨[(oth,(rn,rd)),(ast,(r1,r2))],(cn,cd)⟩):=zh (by unfold ofP;rw[if_pos hm,← hr]);have CA:Hid (k=1→∀V,Calls Tryz.prog 22 #[.agg #[.string ⟨#[49]⟩,.string ⟨#[49]⟩],.agg #[.string ⟨rn.toArray⟩,.string ⟨rd.toArray⟩]] V (fun e w'=>e=.returned (.agg #[.string ⟨r1.toArray⟩,.string ⟨r2.toArray⟩])∧Below V.heap.size V w')):=zh (fun e V=>by
  subst e;obtain⟨_,h1,h2⟩:=numB_len (Pk.may_parts hm).2.2.2.2.1 rfl;dsimp only at h1 h2;have h:=rqadd_any ⟨#[49]⟩ ⟨#[49]⟩ ⟨rn.toArray⟩ ⟨rd.toArray⟩ V (by decide) (by decide) (by rw[size_of];omega) (by rw[size_of];omega);rw[show addR ((⟨#[49]⟩:ByteArray).data.toList,(⟨#[49]⟩:ByteArray).data.toList) ((⟨rn.toArray⟩:ByteArray).data.toList,(⟨rd.toArray⟩:ByteArray).data.toList)=(r1,r2) from hr]at h;exact h)
 have CM:=zh (fun V=>acmay_any ⟨nm,k,ast,oth,(rn,rd),(cn,cd),ex,rc,pay⟩ V hs);rw[hm]at CM;have HR:Hid ((if k=1 then addR ([49],[49]) (rn,rd) else (if k=0 then (rn,rd) else ([49],[49])))=(r1,r2)):=zh (by
  rw[←hr];by_cases e1:k=1
  ·rw[if_pos e1,if_neg (by omega),if_pos e1]
  ·rw[if_neg e1,if_neg e1])
 clear hm hs hr;go_enter Tryz.func16,Tryz.ntmps16;go_wp2_with fail;obtain⟨W,hW,BW,sW,kk⟩:=layN (Below.refl w.heap.size w) #[.string ⟨nm.toArray⟩,.int .i64 k,.string ⟨ast.toArray⟩,.string ⟨oth.toArray⟩,.string ⟨rn.toArray⟩,.string ⟨rd.toArray⟩,.string ⟨cn.toArray⟩,.string ⟨cd.toArray⟩,.int .i64 ex,.int .i64 rc,.int .i64 pay] 25;rw[hW];clear hW;have hX:=blk_new W #[.slice none 0 0,.string ⟨#[]⟩,.string ⟨#[]⟩] 28;have bX:Below W.heap.size W (W.alloc (.cells #[.slice none 0 0,.string ⟨#[]⟩,.string ⟨#[]⟩] 28)):=Below.alloc (Below.refl _ _) (Nat.le_refl _) _;have hXU:W.heap.size<(W.alloc (.cells #[.slice none 0 0,.string ⟨#[]⟩,.string ⟨#[]⟩] 28)).heap.size:=by simp
 obtain⟨U,hU⟩:∃U,W.alloc (.cells #[.slice none 0 0,.string ⟨#[]⟩,.string ⟨#[]⟩] 28)=U:=⟨_,rfl⟩;rw[hU]at hX bX hXU ⊢;clear hU;rw[←sW]at hX;have HXU:Hid (w.heap.size+1<U.heap.size):=zh (by omega);have hle2:w.heap.size≤w.heap.size+1:=by omega
 have p0:∀v,Below U.heap.size U v→_:=fun v hv=>kk 0 _ rfl v (Below.more bX hv);have p1:∀v,Below U.heap.size U v→_:=fun v hv=>kk 1 _ rfl v (Below.more bX hv);have p2:∀v,Below U.heap.size U v→_:=fun v hv=>kk 2 _ rfl v (Below.more bX hv);have p3:∀v,Below U.heap.size U v→_:=fun v hv=>kk 3 _ rfl v (Below.more bX hv);have p4:∀v,Below U.heap.size U v→_:=fun v hv=>kk 4 _ rfl v (Below.more bX hv);have p5:∀v,Below U.heap.size U v→_:=fun v hv=>kk 5 _ rfl v (Below.more bX hv);have p6:∀v,Below U.heap.size U v→_:=fun v hv=>kk 6 _ rfl v (Below.more bX hv);have p7:∀v,Below U.heap.size U v→_:=fun v hv=>kk 7 _ rfl v (Below.more bX hv);have p8:∀v,Below U.heap.size U v→_:=fun v hv=>kk 8 _ rfl v (Below.more bX hv);have p9:∀v,Below U.heap.size U v→_:=fun v hv=>kk 9 _ rfl v (Below.more bX hv);have p10:∀v,Below U.heap.size U v→_:=fun v hv=>kk 10 _ rfl v (Below.more bX hv)
 have HBU:=zh (Below.more BW bX);clear kk hXU sW bX BW;have b0:=Below.refl U.heap.size U
 (try go_wp2_with fail)
 refine(CM.out _).mono ?_;rintro e1 u1 ⟨rfl,b⟩;have HV:=zh b;have HX:=zh (hX.below b);clear hX b CM;go_wp2_with fail;refine(ac_one _).mono ?_;rintro e2 u2 ⟨rfl,b⟩;replace HV:=zh (Below.more HV.out b);replace HX:=zh (HX.out.below b);clear b
 go_upto_region 4 with fail
 have hT:=blk_new u2 #[.string ⟨#[49]⟩,.string ⟨#[49]⟩] 23;have bT:Below u2.heap.size u2 (u2.alloc (.cells #[.string ⟨#[49]⟩,.string ⟨#[49]⟩] 23)):=Below.alloc (Below.refl _ _) (Nat.le_refl _) _;obtain⟨T,hTe⟩:∃T,u2.heap.size=T:=⟨_,rfl⟩;have hTU:U.heap.size≤T:=hTe▸HV.out.size;obtain⟨u3,hU⟩:∃u,u2.alloc (.cells #[.string ⟨#[49]⟩,.string ⟨#[49]⟩] 23)=u:=⟨_,rfl⟩;rw[hU]at hT bT ⊢;replace HV:=zh (Below.more HV.out bT);replace HX:=zh (HX.out.below bT);rw[hTe]at hT ⊢;clear hU hTe bT;have HT:=zh hT;clear hT;have HTU:=zh hTU;have hne:w.heap.size+1≠T:=by have:=HXU.out;omega
 obtain⟨⟨s1,s2⟩,hsq⟩:∃s:Key,(if k=0 then (rn,rd) else ([49],[49]))=s:=⟨_,rfl⟩;have HSQ:=zh hsq;clear hsq;have j1:=p1 _ HV.out
 go_upto_if 13 with fail
 clear j1
 go_cut [] from 13 to 15 (fun V'=>∃V,V=V'∧Blk T [.string ⟨s1.toArray⟩,.string ⟨s2.toArray⟩] V∧Blk (w.heap.size+1) [.slice none 0 0,.string ⟨#[]⟩,.string ⟨#[]⟩] V∧Below U.heap.size U V)
 case first =>
  clear HE0;have b3:=HV.out;have q1:=p1 _ b3;have q4:=p4 _ b3;have q5:=p5 _ b3
  by_cases e0:k=0
  ·have hsq:=HSQ.out;rw[if_pos e0]at hsq;subst e0;obtain⟨rfl,rfl⟩:rn=s1∧rd=s2:=Prod.mk.inj hsq;clear hsq;have y0:=HT.out.c 0 _ rfl;have y1:=HT.out.c 1 _ rfl;have z0:=HT.out.f 0 (by simp);have z1:=HT.out.f 1 (by simp)
   have F1:=zh (blk_put2 HT.out (.string ⟨rn.toArray⟩) (.string ⟨rd.toArray⟩));have F2:=zh (blk_oth2 HX.out hne (.string ⟨rn.toArray⟩) (.string ⟨rd.toArray⟩))
   have F3:=zh (Below.setCell (Below.setCell (b3) (hTU) _) (hTU) _:Below U.heap.size U ((u3.setCell ⟨T,0,none⟩ (.string ⟨rn.toArray⟩)).setCell ⟨T,1,none⟩ (.string ⟨rd.toArray⟩)));go_wp2_with fail
   go_meet
   exact⟨_,rfl,F1.out,F2.out,F3.out⟩
  ·have hsq:=HSQ.out;rw[if_neg e0]at hsq;obtain⟨rfl,rfl⟩:=Prod.mk.inj hsq;clear hsq;go_wp2_with fail
   go_meet
   exact⟨_,rfl,HT.out,HX.out,HV.out⟩
 case rest =>
 clear HT HX HV;obtain⟨V1,hVe,hT,hX,hV⟩:=hcut;subst hVe;have HT:=zh hT;have HX:=zh hX;have HV:=zh hV
 clear hT hX hV;have j1:=p1 _ HV.out
 go_upto_if 18 with fail
 clear j1
 go_cut [] from 18 to 22 (fun V'=>∃V,V=V'∧Blk T [.string ⟨r1.toArray⟩,.string ⟨r2.toArray⟩] V∧Blk (w.heap.size+1) [.slice none 0 0,.string ⟨#[]⟩,.string ⟨#[]⟩] V∧Below U.heap.size U V)
 case first =>
  clear HE0;have b3:=HV.out;have q1:=p1 _ b3;have q4:=p4 _ b3;have q5:=p5 _ b3
  by_cases e1:k=1
  ·have hsq:=HSQ.out;rw[if_neg (by omega)]at hsq;obtain⟨rfl,rfl⟩:=Prod.mk.inj hsq;clear hsq;have CA1:=zh (CA.out e1);clear CA;subst e1;have y0:=HT.out.c 0 _ rfl;have y1:=HT.out.c 1 _ rfl
   go_wp2_with fail;refine(CA1.out _).mono ?_;rintro e4 u4 ⟨rfl,b⟩;have b4:=Below.more b3 b;have hT4:=HT.out.below b;have hX4:=HX.out.below b;clear y0 y1 b;have y0:=hT4.c 0 _ rfl;have y1:=hT4.c 1 _ rfl;have z0:=hT4.f 0 (by simp);have z1:=hT4.f 1 (by simp)
   have F1:=zh (blk_put2 hT4 (.string ⟨r1.toArray⟩) (.string ⟨r2.toArray⟩));have F2:=zh (blk_oth2 hX4 hne (.string ⟨r1.toArray⟩) (.string ⟨r2.toArray⟩))
   have F3:=zh (Below.setCell (Below.setCell (b4) (hTU) _) (hTU) _:Below U.heap.size U ((u4.setCell ⟨T,0,none⟩ (.string ⟨r1.toArray⟩)).setCell ⟨T,1,none⟩ (.string ⟨r2.toArray⟩)));clear hT4 hX4;go_wp2_with fail
   go_meet
   exact⟨_,rfl,F1.out,F2.out,F3.out⟩
  ·have hr:=HR.out;rw[if_neg e1,HSQ.out]at hr;obtain⟨rfl,rfl⟩:=Prod.mk.inj hr;clear hr;go_wp2_with fail
   go_meet
   exact⟨_,rfl,HT.out,HX.out,HV.out⟩
 case rest =>
 clear HT HX HV CA HR HSQ;obtain⟨V,hVe,hT,hX,hV⟩:=hcut;subst hVe;have HT:=zh hT;have HX:=zh hX;have HVV:=zh hV
 have b0:=Below.refl V.heap.size V;have hB:=zh (Nat.le_refl V.heap.size);have q2:∀v,Below V.heap.size V v→_:=fun v hv=>p2 v (Below.more HVV.out hv);have q3:∀v,Below V.heap.size V v→_:=fun v hv=>p3 v (Below.more HVV.out hv);have q4:∀v,Below V.heap.size V v→_:=fun v hv=>p4 v (Below.more HVV.out hv);have q5:∀v,Below V.heap.size V v→_:=fun v hv=>p5 v (Below.more HVV.out hv)
 have t0:∀v,Below V.heap.size V v→_:=fun v hv=>(hT.below hv).c 0 _ rfl;have t1:∀v,Below V.heap.size V v→_:=fun v hv=>(hT.below hv).c 1 _ rfl;clear hT hX hV
 go_upto_region 8 with fail
 go_cut [4,5] from 23 to 31 (fun x y V'=>∃V2 Y4 Y5,V2=V'∧x=.pointer (some ⟨Y4,0,none⟩)∧y=.pointer (some ⟨Y5,0,none⟩)∧V.heap.size≤Y4∧V.heap.size≤Y5∧Blk Y4 [.string ⟨ast.toArray⟩,.string ⟨r1.toArray⟩,.string ⟨r2.toArray⟩] V2∧Blk Y5 [.string ⟨oth.toArray⟩,.string ⟨rn.toArray⟩,.string ⟨rd.toArray⟩] V2∧Below V.heap.size V V2)
 case first =>
  clear HE0 p0 p1 p2 p3 p4 p5 p6 p7 p8 p9 p10;refine wp_region_noPanic ?_;refine wp_region_held_drew (S:=fun w'=>Below V.heap.size V w') (by kernel_rfl) (b0.drew) (fun hH0=>?_);refine wpAnyH_take (i:=0) (v:=?_) rfl (by kernel_rfl) (by kernel_rfl) (by kernel_rfl) (fun _ _ _ h=>h) (Or.inl ⟨by rfl,?_⟩) (by assumption) ?_;rotate_left 1
  ·(intro w hSw;(try dsimp only at hSw);go_simp<;>(with_reducible rfl))
  try simp only[Act.put,qA,qB,qC,qD,qE,qF]
  refine wpAnyH_take (i:=1) (v:=?_) rfl (by kernel_rfl) (by kernel_rfl) (by kernel_rfl) (fun _ _ _ h=>h) (Or.inl ⟨by rfl,?_⟩) (by assumption) ?_;rotate_left 1
  ·(intro w hSw;(try dsimp only at hSw);go_simp<;>(with_reducible rfl))
  try simp only[Act.put,qA,qB,qC,qD,qE,qF]
  refine wpAnyH_take (i:=2) (v:=?_) rfl (by kernel_rfl) (by kernel_rfl) (by kernel_rfl) (fun _ _ _ h=>h) (Or.inl ⟨by rfl,?_⟩) (by assumption) ?_;rotate_left 1
  ·(intro w hSw;(try dsimp only at hSw);go_simp<;>(with_reducible rfl))
  try simp only[Act.put,qA,qB,qC,qD,qE,qF]
  refine wpAnyH_take (i:=3) (v:=?_) rfl (by kernel_rfl) (by kernel_rfl) (by kernel_rfl) (fun _ _ _ h=>h) (Or.inl ⟨by rfl,?_⟩) (by assumption) ?_;rotate_left 1
  ·(intro w hSw;(try dsimp only at hSw);go_simp<;>(with_reducible rfl))
  try simp only[Act.put,qA,qB,qC,qD,qE,qF]
  refine wpAnyH_take (i:=4) (v:=?_) rfl (by kernel_rfl) (by kernel_rfl) (by kernel_rfl) (fun _ _ _ h=>h) (Or.inl ⟨by rfl,?_⟩) (by assumption) ?_;rotate_left 1
  ·(intro w hSw;(try dsimp only at hSw);go_simp<;>(with_reducible rfl))
  try simp only[Act.put,qA,qB,qC,qD,qE,qF]
  refine wpAnyH_take (i:=5) (v:=?_) rfl (by kernel_rfl) (by kernel_rfl) (by kernel_rfl) (fun _ _ _ h=>h) (Or.inl ⟨by rfl,?_⟩) (by assumption) ?_;rotate_left 1
  ·(intro w hSw;(try dsimp only at hSw);go_simp<;>(with_reducible rfl))
  try simp only[Act.put,qA,qB,qC,qD,qE,qF]
  refine wpAnyH_take (i:=6) (v:=?_) rfl (by kernel_rfl) (by kernel_rfl) (by kernel_rfl) (fun _ _ _ h=>h) (Or.inl ⟨by rfl,?_⟩) (by assumption) ?_;rotate_left 1
  ·(intro w hSw;(try dsimp only at hSw);go_simp<;>(with_reducible rfl))
  try simp only[Act.put,qA,qB,qC,qD,qE,qF]
  refine wpAnyH_take (i:=7) (v:=?_) rfl (by kernel_rfl) (by kernel_rfl) (by kernel_rfl) (fun _ _ _ h=>h) (Or.inl ⟨by rfl,?_⟩) (by assumption) ?_;rotate_left 1
  ·(intro w hSw;(try dsimp only at hSw);go_simp<;>(with_reducible rfl))
  try simp only[Act.put,qA,qB,qC,qD,qE,qF]
  refine wpAnyH_take (i:=8) (v:=?_) rfl (by kernel_rfl) (by kernel_rfl) (by kernel_rfl) (fun _ _ _ h=>h) (Or.inl ⟨by rfl,?_⟩) (by assumption) ?_;rotate_left 1
  ·(intro w hSw;(try dsimp only at hSw);go_simp<;>(with_reducible rfl))
  try simp only[Act.put,qA,qB,qC,qD,qE,qF]
  clear q2 q3 q4 q5 t0 t1;refine wpAnyH_ready (rs:=[9,10]) (by kernel_rfl) (by simp) ?_;refine AllReadyH.cons rfl (fun K hK=>?_) (AllReadyH.cons rfl (fun K hK=>?_) (AllReadyH.nil))
  ·go_simp
   have h4:=(blk_new V #[.string ⟨#[]⟩,.string ⟨#[]⟩,.string ⟨#[]⟩] 45).drew;have bb:Below V.heap.size V ((V.alloc (.cells #[.string ⟨#[]⟩,.string ⟨#[]⟩,.string ⟨#[]⟩] 45)).drew):=(Below.alloc (Below.refl _ _) (Nat.le_refl _) _).drew;obtain⟨Y4,hYe⟩:∃Y,V.heap.size=Y:=⟨_,rfl⟩;obtain⟨x1,hU⟩:∃Z9,(V.alloc (.cells #[.string ⟨#[]⟩,.string ⟨#[]⟩,.string ⟨#[]⟩] 45)).drew=Z9:=⟨_,rfl⟩;rw[hU]at h4 bb ⊢;have hw:Below V.heap.size V x1:=bb;have hg4:V.heap.size≤Y4:=Nat.le_of_eq hYe;rw[hYe]at h4 ⊢;clear hU hYe bb;refine hK.out _ _ hw (fun hH1=>?_);clear hK hH0 hw
   try simp only[Act.put,qA,qB,qC,qD,qE,qF]
   refine wpAnyH_ready (rs:=[10]) (by kernel_rfl) (by simp) ?_;refine AllReadyH.cons rfl (fun K hK=>?_) (AllReadyH.nil)
   go_simp
   have h5:=blk_new x1 #[.string ⟨#[]⟩,.string ⟨#[]⟩,.string ⟨#[]⟩] 45;have bb:Below x1.heap.size x1 (x1.alloc (.cells #[.string ⟨#[]⟩,.string ⟨#[]⟩,.string ⟨#[]⟩] 45)):=Below.alloc (Below.refl _ _) (Nat.le_refl _) _;have hg5:=hH1.size;have hne:Y4≠x1.heap.size:=Nat.ne_of_lt h4.lt;replace h4:=h4.below bb;obtain⟨Y5,hYe⟩:∃Y,x1.heap.size=Y:=⟨_,rfl⟩;obtain⟨x2,hU⟩:∃Z9,x1.alloc (.cells #[.string ⟨#[]⟩,.string ⟨#[]⟩,.string ⟨#[]⟩] 45)=Z9:=⟨_,rfl⟩;rw[hU]at h5 bb h4 ⊢;have hw:Below V.heap.size V x2:=Below.more hH1 bb;rw[hYe]at h5 hg5 hne ⊢;clear hU hYe bb;refine hK.out _ _ hw (fun hH2=>?_);clear hK hH1 hw
   try simp only[Act.put,qA,qB,qC,qD,qE,qF]
   refine wpAnyH_ready (rs:=[11]) (by kernel_rfl) (by simp) ?_;refine AllReadyH.cons rfl (fun K hK=>?_) (AllReadyH.nil);have y0:=h4.c 0 _ rfl;have z0:=h4.f 0 (by simp);have y1:=h4.c 1 _ rfl;have z1:=h4.f 1 (by simp);have y2:=h4.c 2 _ rfl;have z2:=h4.f 2 (by simp)
   go_simp
   have hn:=blk_put3 h4 (.string ⟨ast.toArray⟩) (.string ⟨r1.toArray⟩) (.string ⟨r2.toArray⟩);have ho:=blk_oth3 h5 (by first|exact hne|exact hne.symm) (.string ⟨ast.toArray⟩) (.string ⟨r1.toArray⟩) (.string ⟨r2.toArray⟩);obtain⟨x3,hU⟩:∃Z9,(((x2.setCell ⟨Y4,0,none⟩ (.string ⟨ast.toArray⟩)).setCell ⟨Y4,1,none⟩ (.string ⟨r1.toArray⟩)).setCell ⟨Y4,2,none⟩ (.string ⟨r2.toArray⟩))=Z9:=⟨_,rfl⟩;have hw:Below V.heap.size V x3:=hU▸Below.setCell (Below.setCell (Below.setCell (hH2) (hg4) _) (hg4) _) (hg4) _;rw[hU]at hn ho ⊢;clear hU y0 y1 y2 z0 z1 z2;clear h4 h5;have h4:=hn;have h5:=ho;clear hn ho;refine hK.out _ _ hw (fun hH3=>?_);clear hK hH2 hw
   try simp only[Act.put,qA,qB,qC,qD,qE,qF]
   refine wpAnyH_ready (rs:=[12]) (by kernel_rfl) (by simp) ?_;refine AllReadyH.cons rfl (fun K hK=>?_) (AllReadyH.nil);have y0:=h5.c 0 _ rfl;have z0:=h5.f 0 (by simp);have y1:=h5.c 1 _ rfl;have z1:=h5.f 1 (by simp);have y2:=h5.c 2 _ rfl;have z2:=h5.f 2 (by simp)
   go_simp
   have hn:=blk_put3 h5 (.string ⟨oth.toArray⟩) (.string ⟨rn.toArray⟩) (.string ⟨rd.toArray⟩);have ho:=blk_oth3 h4 (by first|exact hne|exact hne.symm) (.string ⟨oth.toArray⟩) (.string ⟨rn.toArray⟩) (.string ⟨rd.toArray⟩);obtain⟨x4,hU⟩:∃Z9,(((x3.setCell ⟨Y5,0,none⟩ (.string ⟨oth.toArray⟩)).setCell ⟨Y5,1,none⟩ (.string ⟨rn.toArray⟩)).setCell ⟨Y5,2,none⟩ (.string ⟨rd.toArray⟩))=Z9:=⟨_,rfl⟩;have hw:Below V.heap.size V x4:=hU▸Below.setCell (Below.setCell (Below.setCell (hH3) (hg5) _) (hg5) _) (hg5) _;rw[hU]at hn ho ⊢;clear hU y0 y1 y2 z0 z1 z2;clear h5 h4;have h5:=hn;have h4:=ho;clear hn ho;refine hK.out _ _ hw (fun hH4=>?_);clear hK hH3 hw
   try simp only[Act.put,qA,qB,qC,qD,qE,qF]
   refine wpAnyH_done (by kernel_rfl) ?_ _;refine NoPanic.normal ?_;go_wp2_with fail
   go_meet
   exact⟨_,Y4,Y5,rfl,rfl,rfl,hg4,hg5,h4,h5,hH4⟩
  ·go_simp
   have h5:=(blk_new V #[.string ⟨#[]⟩,.string ⟨#[]⟩,.string ⟨#[]⟩] 45).drew;have bb:Below V.heap.size V ((V.alloc (.cells #[.string ⟨#[]⟩,.string ⟨#[]⟩,.string ⟨#[]⟩] 45)).drew):=(Below.alloc (Below.refl _ _) (Nat.le_refl _) _).drew;obtain⟨Y5,hYe⟩:∃Y,V.heap.size=Y:=⟨_,rfl⟩;obtain⟨x1,hU⟩:∃Z9,(V.alloc (.cells #[.string ⟨#[]⟩,.string ⟨#[]⟩,.string ⟨#[]⟩] 45)).drew=Z9:=⟨_,rfl⟩;rw[hU]at h5 bb ⊢;have hw:Below V.heap.size V x1:=bb;have hg5:V.heap.size≤Y5:=Nat.le_of_eq hYe;rw[hYe]at h5 ⊢;clear hU hYe bb;refine hK.out _ _ hw (fun hH1=>?_);clear hK hH0 hw
   try simp only[Act.put,qA,qB,qC,qD,qE,qF]
   refine wpAnyH_ready (rs:=[9]) (by kernel_rfl) (by simp) ?_;refine AllReadyH.cons rfl (fun K hK=>?_) (AllReadyH.nil)
   go_simp
   have h4:=blk_new x1 #[.string ⟨#[]⟩,.string ⟨#[]⟩,.string ⟨#[]⟩] 45;have bb:Below x1.heap.size x1 (x1.alloc (.cells #[.string ⟨#[]⟩,.string ⟨#[]⟩,.string ⟨#[]⟩] 45)):=Below.alloc (Below.refl _ _) (Nat.le_refl _) _;have hg4:=hH1.size;have hne:Y5≠x1.heap.size:=Nat.ne_of_lt h5.lt;replace h5:=h5.below bb;obtain⟨Y4,hYe⟩:∃Y,x1.heap.size=Y:=⟨_,rfl⟩;obtain⟨x2,hU⟩:∃Z9,x1.alloc (.cells #[.string ⟨#[]⟩,.string ⟨#[]⟩,.string ⟨#[]⟩] 45)=Z9:=⟨_,rfl⟩;rw[hU]at h4 bb h5 ⊢;have hw:Below V.heap.size V x2:=Below.more hH1 bb;rw[hYe]at h4 hg4 hne ⊢;clear hU hYe bb;refine hK.out _ _ hw (fun hH2=>?_);clear hK hH1 hw
   try simp only[Act.put,qA,qB,qC,qD,qE,qF]
   refine wpAnyH_ready (rs:=[11]) (by kernel_rfl) (by simp) ?_;refine AllReadyH.cons rfl (fun K hK=>?_) (AllReadyH.nil);have y0:=h4.c 0 _ rfl;have z0:=h4.f 0 (by simp);have y1:=h4.c 1 _ rfl;have z1:=h4.f 1 (by simp);have y2:=h4.c 2 _ rfl;have z2:=h4.f 2 (by simp)
   go_simp
   have hn:=blk_put3 h4 (.string ⟨ast.toArray⟩) (.string ⟨r1.toArray⟩) (.string ⟨r2.toArray⟩);have ho:=blk_oth3 h5 (by first|exact hne|exact hne.symm) (.string ⟨ast.toArray⟩) (.string ⟨r1.toArray⟩) (.string ⟨r2.toArray⟩);obtain⟨x3,hU⟩:∃Z9,(((x2.setCell ⟨Y4,0,none⟩ (.string ⟨ast.toArray⟩)).setCell ⟨Y4,1,none⟩ (.string ⟨r1.toArray⟩)).setCell ⟨Y4,2,none⟩ (.string ⟨r2.toArray⟩))=Z9:=⟨_,rfl⟩;have hw:Below V.heap.size V x3:=hU▸Below.setCell (Below.setCell (Below.setCell (hH2) (hg4) _) (hg4) _) (hg4) _;rw[hU]at hn ho ⊢;clear hU y0 y1 y2 z0 z1 z2;clear h4 h5;have h4:=hn;have h5:=ho;clear hn ho;refine hK.out _ _ hw (fun hH3=>?_);clear hK hH2 hw
   try simp only[Act.put,qA,qB,qC,qD,qE,qF]
   refine wpAnyH_ready (rs:=[12]) (by kernel_rfl) (by simp) ?_;refine AllReadyH.cons rfl (fun K hK=>?_) (AllReadyH.nil);have y0:=h5.c 0 _ rfl;have z0:=h5.f 0 (by simp);have y1:=h5.c 1 _ rfl;have z1:=h5.f 1 (by simp);have y2:=h5.c 2 _ rfl;have z2:=h5.f 2 (by simp)
   go_simp
   have hn:=blk_put3 h5 (.string ⟨oth.toArray⟩) (.string ⟨rn.toArray⟩) (.string ⟨rd.toArray⟩);have ho:=blk_oth3 h4 (by first|exact hne|exact hne.symm) (.string ⟨oth.toArray⟩) (.string ⟨rn.toArray⟩) (.string ⟨rd.toArray⟩);obtain⟨x4,hU⟩:∃Z9,(((x3.setCell ⟨Y5,0,none⟩ (.string ⟨oth.toArray⟩)).setCell ⟨Y5,1,none⟩ (.string ⟨rn.toArray⟩)).setCell ⟨Y5,2,none⟩ (.string ⟨rd.toArray⟩))=Z9:=⟨_,rfl⟩;have hw:Below V.heap.size V x4:=hU▸Below.setCell (Below.setCell (Below.setCell (hH3) (hg5) _) (hg5) _) (hg5) _;rw[hU]at hn ho ⊢;clear hU y0 y1 y2 z0 z1 z2;clear h5 h4;have h5:=hn;have h4:=ho;clear hn ho;refine hK.out _ _ hw (fun hH4=>?_);clear hK hH3 hw
   try simp only[Act.put,qA,qB,qC,qD,qE,qF]
   refine wpAnyH_done (by kernel_rfl) ?_ _;refine NoPanic.normal ?_;go_wp2_with fail
   go_meet
   exact⟨_,Y4,Y5,rfl,rfl,rfl,hg4,hg5,h4,h5,hH4⟩
 case rest =>
 obtain⟨V2,Y4,Y5,hVe,rfl,rfl,hg4,hg5,h4,h5,hV2⟩:=hcut;subst hVe;have HV:=zh (Below.more HVV.out hV2);replace HX:=zh (HX.out.below hV2);clear HVV HT t0 t1 q2 q3 q4 q5 hB b0 hV2;have q1:∀v,Below V2.heap.size V2 v→_:=fun v hv=>p1 v (Below.more HV.out hv);have q6:∀v,Below V2.heap.size V2 v→_:=fun v hv=>p6 v (Below.more HV.out hv);have q7:∀v,Below V2.heap.size V2 v→_:=fun v hv=>p7 v (Below.more HV.out hv)
 have c0:∀v,Below V2.heap.size V2 v→_:=fun v hv=>(h4.below hv).c 0 _ rfl;have d0:∀v,Below V2.heap.size V2 v→_:=fun v hv=>(h5.below hv).c 0 _ rfl;have c1:∀v,Below V2.heap.size V2 v→_:=fun v hv=>(h4.below hv).c 1 _ rfl;have d1:∀v,Below V2.heap.size V2 v→_:=fun v hv=>(h5.below hv).c 1 _ rfl;have c2:∀v,Below V2.heap.size V2 v→_:=fun v hv=>(h4.below hv).c 2 _ rfl;have d2:∀v,Below V2.heap.size V2 v→_:=fun v hv=>(h5.below hv).c 2 _ rfl
 have b2:=Below.refl V2.heap.size V2;have ba:=fun x=>Below.alloc (Below.refl V2.heap.size V2) (Nat.le_refl _) x;clear h4 h5 p0 p1 p2 p3 p4 p5 p6 p7 p8 p9 p10 hg4 hg5;have hls:=HV.out.size;by_cases e3:k<3
 ·have HE:=zh (HE0.out.trans (if_pos e3));clear HE0;have HL:=zh (rows_litP V2 [(ast,(r1,r2))] #[.string ⟨ast.toArray⟩,.string ⟨r1.toArray⟩,.string ⟨r2.toArray⟩] rfl);have bb:Below V2.heap.size V2 (V2.alloc (.cells #[.string ⟨ast.toArray⟩,.string ⟨r1.toArray⟩,.string ⟨r2.toArray⟩] 45)):=Below.alloc (Below.refl _ _) (Nat.le_refl _) _;have HX3:=HX.out.below bb;have HV3:=zh (Below.more HV.out bb);have hlt:=HXU.out;have hvs:=HV.out.size;have y0:=HX3.c 0 _ rfl;have y1:=HX3.c 1 _ rfl;have y2:=HX3.c 2 _ rfl
  have z0:=HX3.f 0 (by simp);have z1:=HX3.f 1 (by simp);have z2:=HX3.f 2 (by simp)
  clear HX3 bb;go_wp2_with fail;refine bodyPost_ret (v:=.agg #[.slice (some ⟨V2.heap.size,0,none⟩) 1 1,.string ⟨cn.toArray⟩,.string ⟨cd.toArray⟩]) (by simp[results,Tryz.results16,go_sem, *]) rfl ⟨⟨_,1,by rw[HE.out];rfl,by rw[HE.out];exact Nat.le_refl _,by rw[HE.out];exact pts_oth3 HL.out (fun a e=>by cases e;exact Nat.ne_of_gt (by show w.heap.size+1<V2.heap.size;omega)) _ _ _⟩,?_⟩;exact Below.setCell (Below.setCell (Below.setCell (Below.more HBU.out HV3.out) (hle2) _) (hle2) _) (hle2) _
 ·by_cases e4:k=4
  ·have HE:=zh (HE0.out.trans ((if_neg e3).trans (if_pos e4)));clear HE0;subst e4;have HL:=zh (rows_litP V2 [(oth,(rn,rd))] #[.string ⟨oth.toArray⟩,.string ⟨rn.toArray⟩,.string ⟨rd.toArray⟩] rfl);have bb:Below V2.heap.size V2 (V2.alloc (.cells #[.string ⟨oth.toArray⟩,.string ⟨rn.toArray⟩,.string ⟨rd.toArray⟩] 45)):=Below.alloc (Below.refl _ _) (Nat.le_refl _) _;have HX3:=HX.out.below bb;have HV3:=zh (Below.more HV.out bb);have hlt:=HXU.out;have hvs:=HV.out.size;have y0:=HX3.c 0 _ rfl;have y1:=HX3.c 1 _ rfl;have y2:=HX3.c 2 _ rfl
   have z0:=HX3.f 0 (by simp);have z1:=HX3.f 1 (by simp);have z2:=HX3.f 2 (by simp)
   clear HX3 bb;go_wp2_with fail;refine bodyPost_ret (v:=.agg #[.slice (some ⟨V2.heap.size,0,none⟩) 1 1,.string ⟨cn.toArray⟩,.string ⟨cd.toArray⟩]) (by simp[results,Tryz.results16,go_sem, *]) rfl ⟨⟨_,1,by rw[HE.out];rfl,by rw[HE.out];exact Nat.le_refl _,by rw[HE.out];exact pts_oth3 HL.out (fun a e=>by cases e;exact Nat.ne_of_gt (by show w.heap.size+1<V2.heap.size;omega)) _ _ _⟩,?_⟩;exact Below.setCell (Below.setCell (Below.setCell (Below.more HBU.out HV3.out) (hle2) _) (hle2) _) (hle2) _
  ·cases hl:Op.bytesLess ast oth with
   | true =>
    have HE:=zh (HE0.out.trans ((if_neg e3).trans ((if_neg e4).trans (if_pos hl))));clear HE0;have HL:=zh (rows_litP V2 [(ast,(r1,r2)),(oth,(rn,rd))] #[.string ⟨ast.toArray⟩,.string ⟨r1.toArray⟩,.string ⟨r2.toArray⟩,.string ⟨oth.toArray⟩,.string ⟨rn.toArray⟩,.string ⟨rd.toArray⟩] rfl);have bb:Below V2.heap.size V2 (V2.alloc (.cells #[.string ⟨ast.toArray⟩,.string ⟨r1.toArray⟩,.string ⟨r2.toArray⟩,.string ⟨oth.toArray⟩,.string ⟨rn.toArray⟩,.string ⟨rd.toArray⟩] 45)):=Below.alloc (Below.refl _ _) (Nat.le_refl _) _;have HX3:=HX.out.below bb;have HV3:=zh (Below.more HV.out bb);have hlt:=HXU.out;have hvs:=HV.out.size;have y0:=HX3.c 0 _ rfl;have y1:=HX3.c 1 _ rfl;have y2:=HX3.c 2 _ rfl
    have z0:=HX3.f 0 (by simp);have z1:=HX3.f 1 (by simp);have z2:=HX3.f 2 (by simp)
    clear HX3 bb;go_wp2_with fail;refine bodyPost_ret (v:=.agg #[.slice (some ⟨V2.heap.size,0,none⟩) 2 2,.string ⟨cn.toArray⟩,.string ⟨cd.toArray⟩]) (by simp[results,Tryz.results16,go_sem, *]) rfl ⟨⟨_,2,by rw[HE.out];rfl,by rw[HE.out];exact Nat.le_refl _,by rw[HE.out];exact pts_oth3 HL.out (fun a e=>by cases e;exact Nat.ne_of_gt (by show w.heap.size+1<V2.heap.size;omega)) _ _ _⟩,?_⟩;exact Below.setCell (Below.setCell (Below.setCell (Below.more HBU.out HV3.out) (hle2) _) (hle2) _) (hle2) _
   | false =>
    have HE:=zh (HE0.out.trans ((if_neg e3).trans ((if_neg e4).trans (if_neg (by rw[hl];decide)))));clear HE0;have HL:=zh (rows_litP V2 [(oth,(rn,rd)),(ast,(r1,r2))] #[.string ⟨oth.toArray⟩,.string ⟨rn.toArray⟩,.string ⟨rd.toArray⟩,.string ⟨ast.toArray⟩,.string ⟨r1.toArray⟩,.string ⟨r2.toArray⟩] rfl);have bb:Below V2.heap.size V2 (V2.alloc (.cells #[.string ⟨oth.toArray⟩,.string ⟨rn.toArray⟩,.string ⟨rd.toArray⟩,.string ⟨ast.toArray⟩,.string ⟨r1.toArray⟩,.string ⟨r2.toArray⟩] 45)):=Below.alloc (Below.refl _ _) (Nat.le_refl _) _;have HX3:=HX.out.below bb;have HV3:=zh (Below.more HV.out bb);have hlt:=HXU.out;have hvs:=HV.out.size;have y0:=HX3.c 0 _ rfl;have y1:=HX3.c 1 _ rfl;have y2:=HX3.c 2 _ rfl
    have z0:=HX3.f 0 (by simp);have z1:=HX3.f 1 (by simp);have z2:=HX3.f 2 (by simp)
    clear HX3 bb;go_wp2_with fail;refine bodyPost_ret (v:=.agg #[.slice (some ⟨V2.heap.size,0,none⟩) 2 2,.string ⟨cn.toArray⟩,.string ⟨cd.toArray⟩]) (by simp[results,Tryz.results16,go_sem, *]) rfl ⟨⟨_,2,by rw[HE.out];rfl,by rw[HE.out];exact Nat.le_refl _,by rw[HE.out];exact pts_oth3 HL.out (fun a e=>by cases e;exact Nat.ne_of_gt (by show w.heap.size+1<V2.heap.size;omega)) _ _ _⟩,?_⟩;exact Below.setCell (Below.setCell (Below.setCell (Below.more HBU.out HV3.out) (hle2) _) (hle2) _) (hle2) _
theorem pkof_any(a:Ac.Actn)(w:World)(hs:SzA a):Calls Tryz.prog 16 #[.agg #[.string ⟨a.nm.toArray⟩,.int .i64 a.kind,.string ⟨a.ast.toArray⟩,.string ⟨a.oth.toArray⟩,.string ⟨a.ratio.1.toArray⟩,.string ⟨a.ratio.2.toArray⟩,.string ⟨a.cash.1.toArray⟩,.string ⟨a.cash.2.toArray⟩,.int .i64 a.ex,.int .i64 a.rc,.int .i64 a.pay]] w (GivePk w (ofP a)):=by
 obtain⟨nm,k,ast,oth,⟨rn,rd⟩,⟨cn,cd⟩,ex,rc,pay⟩:=a
 cases hm:Ac.mayA ⟨nm,k,ast,oth,(rn,rd),(cn,cd),ex,rc,pay⟩ with
 | false=>exact ref_no k nm ast oth rn rd cn cd ex rc pay w hs hm
 | true=>exact ref_yes k nm ast oth rn rd cn cd ex rc pay w hs hm
end Go.Proofs.YthgopcnagecbaaaGreatDoor
