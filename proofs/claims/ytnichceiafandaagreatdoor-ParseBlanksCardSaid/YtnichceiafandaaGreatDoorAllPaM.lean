/- Own work. -/
import Derived.Test.YtnichceiafandaaGreatDoorAllPaL
import Derived.Test.YtnichceiafandaaGreatDoorParNumF
set_option linter.unusedSimpArgs false
set_option linter.unusedVariables false
set_option maxHeartbeats 4000000
set_option maxRecDepth 100000
namespace Go.Proofs.YtnichceiafandaaGreatDoor
open Go.RowKit
open Wd (Tk okT ktT)
open Tm (Nd plainN arI arN)
open Pz (Wt tgt settleF)
open Pz (Ms Px Nm nmF dyF frF naF abF sgF rowF takeF nuL numR nuO Rs sg minusR)
variable {R : Nat} {Z : List Nat} {p : Option Addr} {c : Nat} {mv wv ov : Value} {l : List Tk} {k d : Nat} {K : List Wt} {t : List Nd} {w : World}
theorem Blk.keep{b:Nat}{cs:List Value}{w':World}(h:Blk b cs w)(hk:Kept R Z w w')(hb:b∈Z):Blk b cs w':=by
 have e:=hk.z b hb;exact⟨Nat.lt_of_lt_of_le h.lt hk.b.size,fun i x c=>(World.cell?_of_block (w:=w) (a:=⟨b,i,none⟩) e).trans (h.c i x c),fun i c=>(World.frozen?_of_block (w:=w) (a:=⟨b,i,none⟩) e).trans (h.f i c)⟩
theorem Kept.less{Z':List Nat}{w':World}(h:Kept R Z w w')(hs:∀z∈Z',z∈Z):Kept R Z' w w':=⟨h.b,fun z hz=>h.z z (hs z hz)⟩
theorem minus_rs(k:Nat):minusR (rsK l k)=((sg [45] (rsK l k)).isSome,rsK l (if (sg [45] (rsK l k)).isSome then k+1 else k)):=by
 unfold minusR
 cases hs:sg [45] (rsK l k) with
 | none=>rfl
 | some r1 =>
  cases hr:rsK l k with
  | nil=>rw[hr]at hs;cases hs
  | cons x r =>
   rw[hr,Pz.sg_cons]at hs;split at hs
   ·have e1:=Option.some.inj hs;have e2:=(rsK_lt hr).2;exact congrArg (Prod.mk true) (e1.symm.trans e2)
   ·cases hs
theorem sg_rs{b:UInt8}(h:(sg [b] (rsK l k)).isSome=true):sg [b] (rsK l k)=some (rsK l (k+1))∧rsK l k=(2,[b])::rsK l (k+1)∧k<l.length:=by
 cases hr:rsK l k with
 | nil=>rw[hr]at h;cases h
 | cons x r =>
  rw[hr,Pz.sg_cons]at h;split at h
  ·rename_i e
   obtain⟨h1,h2⟩:=rsK_lt hr;subst e;rw[h2];exact⟨Pz.sg_yes _ _,rfl,h1⟩
  ·cases h
theorem pfrac_any(h:RdS R Z p c mv l k d K t wv ov w)(E:PEn R p l w)(hk:k≤l.length)(ht:t.length≤2000000) :
  Calls Tryz.prog 79 #[.pointer (some ⟨R,0,none⟩)] w (LeafG R Z p c mv l d K t w (numR (rsK l k) t)):=by
 have h1:=h.alloc (.cells #[.string ⟨#[]⟩] 9);have b1:Below w.heap.size w (w.alloc (.cells #[.string ⟨#[]⟩] 9)):=Below.alloc (Below.refl _ _) (Nat.le_refl _) _;have s1:(w.alloc (.cells #[.string ⟨#[]⟩] 9)).heap.size=w.heap.size+1:=by simp
 have h2:=h1.alloc (.cells #[.string ⟨#[]⟩] 9);rw[s1]at h2;have b2:Below (w.alloc (.cells #[.string ⟨#[]⟩] 9)).heap.size (w.alloc (.cells #[.string ⟨#[]⟩] 9)) ((w.alloc (.cells #[.string ⟨#[]⟩] 9)).alloc (.cells #[.string ⟨#[]⟩] 9)):=Below.alloc (Below.refl _ _) (Nat.le_refl _) _;have n1:=(blk_new w #[.string ⟨#[]⟩] 9).below b2;have n2:=blk_new (w.alloc (.cells #[.string ⟨#[]⟩] 9)) #[.string ⟨#[]⟩] 9;rw[s1]at n2;have s2:((w.alloc (.cells #[.string ⟨#[]⟩] 9)).alloc (.cells #[.string ⟨#[]⟩] 9)).heap.size=w.heap.size+1+1:=by simp
 obtain⟨U,hU⟩:∃U,(w.alloc (.cells #[.string ⟨#[]⟩] 9)).alloc (.cells #[.string ⟨#[]⟩] 9)=U:=⟨_,rfl⟩;rw[hU]at h2 b2 n1 n2 s2;have HU:=Lib.hid (Below.more b1 b2);have HN0:Hid (nuI w.heap.size (w.heap.size+1) ([],[]) U):=Lib.hid ⟨n1,n2⟩;have HH:=Lib.hid h2;have HsU:=Lib.hid s2;have HE:=Lib.hid E;have HZ:=Lib.hid h.zlt;have HRw:=Lib.hid h.blk.lt;have HK:=Lib.hid hk;have HTl:=Lib.hid ht;have HKU:=Lib.hid (Kept.of_below (R:=R) (Z:=Z) (Below.more b1 b2) h.zlt (Nat.le_of_lt h.blk.lt));have hEU:=E.below ((Below.more b1 b2).mono (Nat.le_of_lt h.blk.lt));have CT1:=Lib.hid (ptake_sign h2 hEU hk 40 rfl)
 cases hs1:(sg [40] (rsK l k)).isSome with
 | false =>
  rw[hs1]at CT1;have hnone:sg [40] (rsK l k)=none:=by cases e:sg [40] (rsK l k) with
   | none=>rfl
   | some x=>rw[e]at hs1;cases hs1
  have HPR:Hid (numR (rsK l k) t=.bad 110 (rsK l k).length):=Lib.hid (by rw[Pz.num_row _ t (rsK_ok (fun t ht=>(E.ok.2 t ht).1) k),hnone]);clear h E h1 h2 b1 b2 s1 s2 n1 n2 hEU hs1 hnone hk ht;go_enter Tryz.func79,Tryz.ntmps79;go_wp2_with fail;refine(ksign_any ⟨#[40]⟩ _).mono ?_;rintro r w1 ⟨rfl,rfl⟩;go_wp2_with fail;refine CT1.out.mono ?_;rintro r w3 ⟨rfl,h3,k3,_⟩;have HR:=Lib.hid h3;have HKp:=Lib.hid (HKU.out.trans (k3.less (fun z hz=>by simp[hz])));clear h3 k3 CT1;go_wp2_with fail;go_ret;exact .inr ⟨k,wv,ov,HPR.out,HK.out,rfl,HR.out.less (fun z hz=>by simp[hz]),HKp.out⟩
 | true =>
  rw[hs1]at CT1;have HS1:=Lib.hid (sg_rs hs1);clear h h1 h2 b1 b2 s1 s2 n1 n2 hEU hs1 hk ht E
  cases hs2:(sg [45] (rsK l (k+1))).isSome with
  | false =>
   have HS2:=Lib.hid hs2;clear hs2;go_enter Tryz.func79,Tryz.ntmps79;go_wp2_with fail;refine(ksign_any ⟨#[40]⟩ _).mono ?_;rintro r w1 ⟨rfl,rfl⟩;go_wp2_with fail;refine CT1.out.mono ?_;rintro r w3 ⟨rfl,h3,k3,hk3⟩;have h3:RdS R ((w.heap.size+1)::w.heap.size::Z) p c mv l (k+1) d K t wv ov w3:=h3;have hkU:=HKU.out.trans (k3.less (Z':=Z) (fun z hz=>by simp[hz]));have hE3:=HE.out.below hkU.b;have CT2:=Lib.hid (ptake_sign h3 hE3 hk3 45 rfl);rw[HS2.out]at CT2;have hN3:nuI w.heap.size (w.heap.size+1) ([],[]) w3:=⟨HN0.out.1.keep k3 (by simp),HN0.out.2.keep k3 (by simp)⟩;have HN3:=Lib.hid hN3;have HKU3:=Lib.hid hkU;have HSZ3:Hid (w.heap.size+1<w3.heap.size):=Lib.hid (h3.zlt _ (by simp));clear h3 k3 hkU hE3 hN3 CT1 hk3;go_wp2_with fail;refine(ksign_any ⟨#[45]⟩ _).mono ?_;rintro r w1 ⟨rfl,rfl⟩;go_wp2_with fail;refine CT2.out.mono ?_;rintro r V0 ⟨rfl,h4,k4,hk4⟩;obtain⟨k2,hk2⟩:∃k2,k2=k+1:=⟨_,rfl⟩;have h4:RdS R ((w.heap.size+1)::w.heap.size::Z) p c mv l k2 d K t wv ov V0:=by rw[hk2];exact h4
   have HK2:Hid (k2≤l.length):=Lib.hid (by rw[hk2];exact hk4);have H0:=Lib.hid h4;have HKp:=Lib.hid (HKU3.out.trans (k4.less (Z':=Z) (fun z hz=>by simp[hz])));have HN:Hid (nuI w.heap.size (w.heap.size+1) ([],[]) V0):=Lib.hid ⟨HN3.out.1.keep k4 (by simp),HN3.out.2.keep k4 (by simp)⟩;have HsV:Hid (w.heap.size+1<V0.heap.size):=Lib.hid (h4.zlt _ (by simp));have HS2':Hid ((sg [45] (rsK l (k+1))).isSome=false∧k2=k+1):=Lib.hid ⟨HS2.out,hk2⟩;clear h4 k4 hk4 CT2 HS2 hk2;go_wp2_with fail;refine(knatural_any _ _).mono ?_;rintro r u1 ⟨rfl,hw⟩;have I1:=Lib.hid (natur_is w.heap.size (w.heap.size+1) V0 (by have:=HsV.out;omega) (by omega));rw[←hw]at I1;have bb:Below V0.heap.size V0 u1:=by rw[hw];exact Below.alloc (Below.refl _ _) (Nat.le_refl _) _
   have Bu1:=Lib.hid bb;clear hw bb;go_wp2_with fail;refine(ksign_any ⟨#[44]⟩ _).mono ?_;rintro r u2 ⟨rfl,hw⟩;have I2:=Lib.hid (sign_is (nuTg w.heap.size (w.heap.size+1)) 44 u1);rw[←hw]at I2;have bb:Below u1.heap.size u1 u2:=by rw[hw];exact Below.alloc (Below.refl _ _) (Nat.le_refl _) _
   have Bu2:=Lib.hid bb;clear hw bb;go_wp2_with fail;refine(kabove_any _ _).mono ?_;rintro r u3 ⟨rfl,bb,s0,c1,c2,c3⟩;have I3:=Lib.hid (above_is w.heap.size (w.heap.size+1) (w:=u2) (w':=u3) (by have:=HsV.out;have:=Bu1.out.size;have:=Bu2.out.size;omega) (by omega) s0 c1 c2 c3);have Bu3:=Lib.hid bb;clear bb s0 c1 c2 c3;go_wp2_with fail;refine(ksign_any ⟨#[41]⟩ _).mono ?_;rintro r u4 ⟨rfl,hw⟩;have I4:=Lib.hid (sign_is (nuTg w.heap.size (w.heap.size+1)) 41 u3);rw[←hw]at I4;have bb:Below u3.heap.size u3 u4:=by rw[hw];exact Below.alloc (Below.refl _ _) (Nat.le_refl _) _
   have Bu4:=Lib.hid bb;clear hw bb;obtain⟨V,hV⟩:∃V,u4.alloc (.cells #[fvV (148,#[.pointer (some ⟨V0.heap.size,0,none⟩)]),fvV (75,#[.pointer (some ⟨u1.heap.size,0,none⟩)]),fvV (150,#[.pointer (some ⟨u2.heap.size+1+1,0,none⟩),.pointer (some ⟨u2.heap.size,0,none⟩)]),fvV (75,#[.pointer (some ⟨u3.heap.size,0,none⟩)])] 81)=V:=⟨_,rfl⟩;have hR:=rowsLit (enc:=encG) (k:=1) (fun _=>rfl) u4 [(148,#[.pointer (some ⟨V0.heap.size,0,none⟩)]),(75,#[.pointer (some ⟨u1.heap.size,0,none⟩)]),(150,#[.pointer (some ⟨u2.heap.size+1+1,0,none⟩),.pointer (some ⟨u2.heap.size,0,none⟩)]),(75,#[.pointer (some ⟨u3.heap.size,0,none⟩)])] #[fvV (148,#[.pointer (some ⟨V0.heap.size,0,none⟩)]),fvV (75,#[.pointer (some ⟨u1.heap.size,0,none⟩)]),fvV (150,#[.pointer (some ⟨u2.heap.size+1+1,0,none⟩),.pointer (some ⟨u2.heap.size,0,none⟩)]),fvV (75,#[.pointer (some ⟨u3.heap.size,0,none⟩)])] 81 rfl;rw[hV]at hR;have bb:Below u4.heap.size u4 V:=by rw[←hV];exact Below.alloc (Below.refl _ _) (Nat.le_refl _) _
   have BV:=Lib.hid bb;have BR:=Lib.hid (Below.more (Below.more (Below.more (Below.more Bu1.out Bu2.out) Bu3.out) Bu4.out) bb);obtain⟨Lf,hLf⟩:∃Lf:List Fv,Lf=[(148,#[.pointer (some ⟨V0.heap.size,0,none⟩)]),(75,#[.pointer (some ⟨u1.heap.size,0,none⟩)]),(150,#[.pointer (some ⟨u2.heap.size+1+1,0,none⟩),.pointer (some ⟨u2.heap.size,0,none⟩)]),(75,#[.pointer (some ⟨u3.heap.size,0,none⟩)])]:=⟨_,rfl⟩;rw[←hLf]at hR;have hlf:Lf.length=4:=by rw[hLf];rfl
   have J1:=Lib.hid (I1.out.stay (lo':=V0.heap.size) (Nat.le_refl _) (WrB.of_below (Below.more (Below.more (Below.more Bu2.out Bu3.out) Bu4.out) bb) []) (fun x c=>by cases c));have J2:=Lib.hid (I2.out.stay (lo':=V0.heap.size) (by have:=Bu1.out.size;omega) (WrB.of_below (Below.more (Below.more Bu3.out Bu4.out) bb) []) (fun x c=>by cases c));have J3:=Lib.hid (I3.out.stay (lo':=V0.heap.size) (by have:=Bu1.out.size;have:=Bu2.out.size;omega) (WrB.of_below (Below.more Bu4.out bb) []) (fun x c=>by cases c));have J4:=Lib.hid (I4.out.stay (lo':=V0.heap.size) (by have:=Bu1.out.size;have:=Bu2.out.size;have:=Bu3.out.size;omega) (WrB.of_below bb []) (fun x c=>by cases c));have hM:∀ (i:Nat) (M:Value) (f:Ms Nm),(Lf.map fvV)[i]?=some M→nuL[i]?=some f→IsM (nuI w.heap.size (w.heap.size+1)) [w.heap.size,w.heap.size+1] f M V0.heap.size V:=by
    intro i M f hM hf;rw[hLf]at hM
    match i,hM,hf with
    | 0,hM,hf =>
     obtain rfl:=Option.some.inj hM;obtain rfl:=Option.some.inj hf;exact J1.out
    | 1,hM,hf =>
     obtain rfl:=Option.some.inj hM;obtain rfl:=Option.some.inj hf;exact J2.out
    | 2,hM,hf =>
     obtain rfl:=Option.some.inj hM;obtain rfl:=Option.some.inj hf;exact J3.out
    | 3,hM,hf =>
     obtain rfl:=Option.some.inj hM;obtain rfl:=Option.some.inj hf;exact J4.out
    | n+4,hM,_=>exact absurd hM (by simp)
   have hRX:=H0.out.below BR.out;have hEX:=HE.out.below (HKp.out.b.trans (BR.out.mono (Nat.le_of_lt H0.out.blk.lt)));have hT2:∀T∈[w.heap.size,w.heap.size+1],T=w.heap.size∨T=w.heap.size+1:=fun T c=>by simpa using c
   have CR:=Lib.hid (prow_any nuL (Lf.map fvV) V (nuTg w.heap.size (w.heap.size+1)) (by rw[List.length_map,hlf];rfl) hM (some ⟨u4.heap.size,0,none⟩) 4 (rows_map hR) (fun a e=>by obtain rfl:=Option.some.inj e;show V0.heap.size≤u4.heap.size;have:=Bu1.out.size;have:=Bu2.out.size;have:=Bu3.out.size;have:=Bu4.out.size;omega) (fun T c=>by have:=hT2 T c;have:=HsV.out;omega) H0.out.blk.lt (by rw[List.length_map,hlf];decide) ([],[]) k2 l hEX.good (fun X hX=>hEX.gr X (hX.below (fun x c=>by
     rcases List.mem_cons.1 c with c|c
     ·omega
     ·have:=hT2 x c;have:=HRw.out;omega) (Nat.le_of_lt hRX.blk.lt))) ⟨HN.out.1.below BR.out,HN.out.2.below BR.out⟩ hEX.tk (fun a e c=>by
     have:=hEX.low a e;rcases List.mem_cons.1 c with c|c
     ·omega
     ·have:=hT2 _ c;have:=HRw.out;omega) (fun c=>by have:=hT2 _ c;have:=HRw.out;omega) hRX.blk hEX.ok HK2.out)
   rw[List.length_map,hlf]at CR;have HRX:=Lib.hid hRX;simp only[fvV]at hV;clear hR bb hM hRX hEX hLf hlf;go_wp2_with fail;refine CR.out.mono ?_;rintro r wz ⟨b,s',k',hF,rfl,hk',hI',hbk,hwz⟩;have h9:=HRX.out.cellT hbk hwz (fun x c=>by rcases hT2 x c with rfl|rfl<;>simp);have hkp:Kept R Z w wz:=by
    have q1:Kept R Z w V:=HKp.out.trans (Kept.of_below BR.out (fun z hz=>by have:=HZ.out z hz;have:=HsV.out;omega) (Nat.le_of_lt H0.out.blk.lt));exact q1.trans (Kept.wr hwz (fun x c=>by
     rcases List.mem_cons.1 c with c|c
     ·subst c;exact⟨Nat.le_refl _,fun hz=>HRX.out.rz (by simp[hz])⟩
     ·have e:=hT2 x c;exact⟨by have:=HRw.out;omega,fun hz=>by have:=HZ.out x hz;omega⟩) (fun z hz=>by have:=HZ.out z hz;have:=HsV.out;have:=BR.out.size;omega) (Nat.le_of_lt HRX.out.blk.lt))
   have hpr:numR (rsK l k) t=nuO false t (b,s',rsK l k'):=by
    rw[Pz.num_row _ t (rsK_ok (fun t ht=>(HE.out.ok.2 t ht).1) k),HS1.out.1];dsimp only;rw[minus_rs,HS2'.out.1];rw[←hF,HS2'.out.2]
    rfl
   have hsz:=fun (e:b=true)=>Pz.row_nu (s:=([],[])) (r':=rsK l k') (rsK_ok (fun t ht=>(HE.out.ok.2 t ht).1) k2) (by rw[hF,e]);have H9:=Lib.hid h9;have HKp9:=Lib.hid hkp;have HPR:=Lib.hid hpr;have HK9:=Lib.hid hk'
   have HBT:=Lib.hid hI';have HSZ:=Lib.hid hsz;have HEZ:=Lib.hid (HE.out.below hkp.b);clear h9 hkp hpr hF hbk hwz CR HRX hk' hsz hT2 hI'
   cases b with
   | false =>
    go_wp2_with fail;go_ret;exact .inr ⟨k',wv,ov,HPR.out,HK9.out,rfl,H9.out.less (fun z hz=>by simp[hz]),HKp9.out⟩
   | true =>
    obtain⟨na,nl,nb,bl,n0⟩:=HSZ.out rfl;obtain⟨m1,m2,m3,m4⟩:=Pz.mk_len na nb n0 nl bl;obtain⟨a1,a2⟩:=s';dsimp only at HBT HPR m1 m2 m3 m4 nl bl;have cm:=fun V=>qmake_any ⟨a1.toArray⟩ ⟨a2.toArray⟩ V (by show a1.toArray.size≤90000;rw[List.size_toArray];omega) (by show a2.toArray.size≤90000;rw[List.size_toArray];omega);rw[show (⟨a1.toArray⟩:ByteArray).data.toList=a1 from rfl,show (⟨a2.toArray⟩:ByteArray).data.toList=a2 from rfl]at cm;have HPR2:Hid (numR (rsK l k) t=.ok (rsK l k') (t++[Nd.mk 0 ((makeR a1 a2).1) [] 0 0])):=Lib.hid HPR.out;generalize makeR a1 a2=MR at *;obtain⟨⟨mn,md⟩,mb⟩:=MR;dsimp only at m1 m2 m3 m4 HPR2 cm;have CM:=Lib.hid cm;have c0:=HBT.out.1.c 0 _ rfl;have c1:=HBT.out.2.c 0 _ rfl;have HM3:=Lib.hid (And.intro m1 m2);clear cm HPR HSZ na nb n0 nl bl;go_wp2_with fail;refine(CM.out _).mono ?_;rintro r wm ⟨rfl,bm⟩;have H10:=Lib.hid (H9.out.below bm);have HKm:=Lib.hid (HKp9.out.trans (Kept.of_below bm (fun z hz=>H9.out.zlt z (by simp[hz])) (Nat.le_of_lt H9.out.blk.lt)));clear bm c0 c1 CM;have H11:=Lib.hid (H10.out.alloc (.cells #[.string ⟨mn.toArray⟩,.string ⟨md.toArray⟩] 35));have bX:Below wm.heap.size wm (wm.alloc (.cells #[.string ⟨mn.toArray⟩,.string ⟨md.toArray⟩] 35)):=Below.alloc (Below.refl _ _) (Nat.le_refl _) _;have kX:=blk_new wm #[.string ⟨mn.toArray⟩,.string ⟨md.toArray⟩] 35;have HKX:=Lib.hid (HKm.out.trans (Kept.of_below bX (fun z hz=>H10.out.zlt z (by simp[hz])) (Nat.le_of_lt H10.out.blk.lt)));obtain⟨WX,hWX⟩:∃WX,wm.alloc (.cells #[.string ⟨mn.toArray⟩,.string ⟨md.toArray⟩] 35)=WX:=⟨_,rfl⟩
    rw[hWX]at H11 bX kX HKX;have HhX:=Lib.hid hWX;have HKk:=Lib.hid kX;clear bX kX H10 HKm hWX
    go_upto_region 8 with fail
    rw[HhX.out];have H12:=H11;have HK12:=HKX
    have c0:=HKk.out.c 0 _ rfl;have c1:=HKk.out.c 1 _ rfl;have CL:=Lib.hid (play_any (Nd.mk 0 ((mn,md)) [] 0 0) H12.out HTl.out);go_wp2_with fail;refine CL.out.mono ?_;rintro r wf ⟨ov2,rfl,hf1,hf2⟩;have HF1:=Lib.hid hf1;have HF2:=Lib.hid hf2
    clear hf1 hf2 CL c0 c1;go_wp2_with fail;go_ret;exact .inl ⟨k',_,wv,ov2,HPR2.out,HK9.out,rfl,HF1.out.less (fun z hz=>by simp[hz]),HK12.out.trans (HF2.out.less (fun z hz=>by simp[hz]))⟩
  | true =>
   have HS2:=Lib.hid hs2;clear hs2;go_enter Tryz.func79,Tryz.ntmps79;go_wp2_with fail;refine(ksign_any ⟨#[40]⟩ _).mono ?_;rintro r w1 ⟨rfl,rfl⟩;go_wp2_with fail;refine CT1.out.mono ?_;rintro r w3 ⟨rfl,h3,k3,hk3⟩;have h3:RdS R ((w.heap.size+1)::w.heap.size::Z) p c mv l (k+1) d K t wv ov w3:=h3;have hkU:=HKU.out.trans (k3.less (Z':=Z) (fun z hz=>by simp[hz]));have hE3:=HE.out.below hkU.b;have CT2:=Lib.hid (ptake_sign h3 hE3 hk3 45 rfl);rw[HS2.out]at CT2;have hN3:nuI w.heap.size (w.heap.size+1) ([],[]) w3:=⟨HN0.out.1.keep k3 (by simp),HN0.out.2.keep k3 (by simp)⟩;have HN3:=Lib.hid hN3;have HKU3:=Lib.hid hkU;have HSZ3:Hid (w.heap.size+1<w3.heap.size):=Lib.hid (h3.zlt _ (by simp));clear h3 k3 hkU hE3 hN3 CT1 hk3;go_wp2_with fail;refine(ksign_any ⟨#[45]⟩ _).mono ?_;rintro r w1 ⟨rfl,rfl⟩;go_wp2_with fail;refine CT2.out.mono ?_;rintro r V0 ⟨rfl,h4,k4,hk4⟩;obtain⟨k2,hk2⟩:∃k2,k2=k+1+1:=⟨_,rfl⟩;have h4:RdS R ((w.heap.size+1)::w.heap.size::Z) p c mv l k2 d K t wv ov V0:=by rw[hk2];exact h4
   have HK2:Hid (k2≤l.length):=Lib.hid (by rw[hk2];exact hk4);have H0:=Lib.hid h4;have HKp:=Lib.hid (HKU3.out.trans (k4.less (Z':=Z) (fun z hz=>by simp[hz])));have HN:Hid (nuI w.heap.size (w.heap.size+1) ([],[]) V0):=Lib.hid ⟨HN3.out.1.keep k4 (by simp),HN3.out.2.keep k4 (by simp)⟩;have HsV:Hid (w.heap.size+1<V0.heap.size):=Lib.hid (h4.zlt _ (by simp));have HS2':Hid ((sg [45] (rsK l (k+1))).isSome=true∧k2=k+1+1):=Lib.hid ⟨HS2.out,hk2⟩;clear h4 k4 hk4 CT2 HS2 hk2;go_wp2_with fail;refine(knatural_any _ _).mono ?_;rintro r u1 ⟨rfl,hw⟩;have I1:=Lib.hid (natur_is w.heap.size (w.heap.size+1) V0 (by have:=HsV.out;omega) (by omega));rw[←hw]at I1;have bb:Below V0.heap.size V0 u1:=by rw[hw];exact Below.alloc (Below.refl _ _) (Nat.le_refl _) _
   have Bu1:=Lib.hid bb;clear hw bb;go_wp2_with fail;refine(ksign_any ⟨#[44]⟩ _).mono ?_;rintro r u2 ⟨rfl,hw⟩;have I2:=Lib.hid (sign_is (nuTg w.heap.size (w.heap.size+1)) 44 u1);rw[←hw]at I2;have bb:Below u1.heap.size u1 u2:=by rw[hw];exact Below.alloc (Below.refl _ _) (Nat.le_refl _) _
   have Bu2:=Lib.hid bb;clear hw bb;go_wp2_with fail;refine(kabove_any _ _).mono ?_;rintro r u3 ⟨rfl,bb,s0,c1,c2,c3⟩;have I3:=Lib.hid (above_is w.heap.size (w.heap.size+1) (w:=u2) (w':=u3) (by have:=HsV.out;have:=Bu1.out.size;have:=Bu2.out.size;omega) (by omega) s0 c1 c2 c3);have Bu3:=Lib.hid bb;clear bb s0 c1 c2 c3;go_wp2_with fail;refine(ksign_any ⟨#[41]⟩ _).mono ?_;rintro r u4 ⟨rfl,hw⟩;have I4:=Lib.hid (sign_is (nuTg w.heap.size (w.heap.size+1)) 41 u3);rw[←hw]at I4;have bb:Below u3.heap.size u3 u4:=by rw[hw];exact Below.alloc (Below.refl _ _) (Nat.le_refl _) _
   have Bu4:=Lib.hid bb;clear hw bb;obtain⟨V,hV⟩:∃V,u4.alloc (.cells #[fvV (148,#[.pointer (some ⟨V0.heap.size,0,none⟩)]),fvV (75,#[.pointer (some ⟨u1.heap.size,0,none⟩)]),fvV (150,#[.pointer (some ⟨u2.heap.size+1+1,0,none⟩),.pointer (some ⟨u2.heap.size,0,none⟩)]),fvV (75,#[.pointer (some ⟨u3.heap.size,0,none⟩)])] 81)=V:=⟨_,rfl⟩;have hR:=rowsLit (enc:=encG) (k:=1) (fun _=>rfl) u4 [(148,#[.pointer (some ⟨V0.heap.size,0,none⟩)]),(75,#[.pointer (some ⟨u1.heap.size,0,none⟩)]),(150,#[.pointer (some ⟨u2.heap.size+1+1,0,none⟩),.pointer (some ⟨u2.heap.size,0,none⟩)]),(75,#[.pointer (some ⟨u3.heap.size,0,none⟩)])] #[fvV (148,#[.pointer (some ⟨V0.heap.size,0,none⟩)]),fvV (75,#[.pointer (some ⟨u1.heap.size,0,none⟩)]),fvV (150,#[.pointer (some ⟨u2.heap.size+1+1,0,none⟩),.pointer (some ⟨u2.heap.size,0,none⟩)]),fvV (75,#[.pointer (some ⟨u3.heap.size,0,none⟩)])] 81 rfl;rw[hV]at hR;have bb:Below u4.heap.size u4 V:=by rw[←hV];exact Below.alloc (Below.refl _ _) (Nat.le_refl _) _
   have BV:=Lib.hid bb;have BR:=Lib.hid (Below.more (Below.more (Below.more (Below.more Bu1.out Bu2.out) Bu3.out) Bu4.out) bb);obtain⟨Lf,hLf⟩:∃Lf:List Fv,Lf=[(148,#[.pointer (some ⟨V0.heap.size,0,none⟩)]),(75,#[.pointer (some ⟨u1.heap.size,0,none⟩)]),(150,#[.pointer (some ⟨u2.heap.size+1+1,0,none⟩),.pointer (some ⟨u2.heap.size,0,none⟩)]),(75,#[.pointer (some ⟨u3.heap.size,0,none⟩)])]:=⟨_,rfl⟩;rw[←hLf]at hR;have hlf:Lf.length=4:=by rw[hLf];rfl
   have J1:=Lib.hid (I1.out.stay (lo':=V0.heap.size) (Nat.le_refl _) (WrB.of_below (Below.more (Below.more (Below.more Bu2.out Bu3.out) Bu4.out) bb) []) (fun x c=>by cases c));have J2:=Lib.hid (I2.out.stay (lo':=V0.heap.size) (by have:=Bu1.out.size;omega) (WrB.of_below (Below.more (Below.more Bu3.out Bu4.out) bb) []) (fun x c=>by cases c));have J3:=Lib.hid (I3.out.stay (lo':=V0.heap.size) (by have:=Bu1.out.size;have:=Bu2.out.size;omega) (WrB.of_below (Below.more Bu4.out bb) []) (fun x c=>by cases c));have J4:=Lib.hid (I4.out.stay (lo':=V0.heap.size) (by have:=Bu1.out.size;have:=Bu2.out.size;have:=Bu3.out.size;omega) (WrB.of_below bb []) (fun x c=>by cases c));have hM:∀ (i:Nat) (M:Value) (f:Ms Nm),(Lf.map fvV)[i]?=some M→nuL[i]?=some f→IsM (nuI w.heap.size (w.heap.size+1)) [w.heap.size,w.heap.size+1] f M V0.heap.size V:=by
    intro i M f hM hf;rw[hLf]at hM
    match i,hM,hf with
    | 0,hM,hf =>
     obtain rfl:=Option.some.inj hM;obtain rfl:=Option.some.inj hf;exact J1.out
    | 1,hM,hf =>
     obtain rfl:=Option.some.inj hM;obtain rfl:=Option.some.inj hf;exact J2.out
    | 2,hM,hf =>
     obtain rfl:=Option.some.inj hM;obtain rfl:=Option.some.inj hf;exact J3.out
    | 3,hM,hf =>
     obtain rfl:=Option.some.inj hM;obtain rfl:=Option.some.inj hf;exact J4.out
    | n+4,hM,_=>exact absurd hM (by simp)
   have hRX:=H0.out.below BR.out;have hEX:=HE.out.below (HKp.out.b.trans (BR.out.mono (Nat.le_of_lt H0.out.blk.lt)));have hT2:∀T∈[w.heap.size,w.heap.size+1],T=w.heap.size∨T=w.heap.size+1:=fun T c=>by simpa using c
   have CR:=Lib.hid (prow_any nuL (Lf.map fvV) V (nuTg w.heap.size (w.heap.size+1)) (by rw[List.length_map,hlf];rfl) hM (some ⟨u4.heap.size,0,none⟩) 4 (rows_map hR) (fun a e=>by obtain rfl:=Option.some.inj e;show V0.heap.size≤u4.heap.size;have:=Bu1.out.size;have:=Bu2.out.size;have:=Bu3.out.size;have:=Bu4.out.size;omega) (fun T c=>by have:=hT2 T c;have:=HsV.out;omega) H0.out.blk.lt (by rw[List.length_map,hlf];decide) ([],[]) k2 l hEX.good (fun X hX=>hEX.gr X (hX.below (fun x c=>by
     rcases List.mem_cons.1 c with c|c
     ·omega
     ·have:=hT2 x c;have:=HRw.out;omega) (Nat.le_of_lt hRX.blk.lt))) ⟨HN.out.1.below BR.out,HN.out.2.below BR.out⟩ hEX.tk (fun a e c=>by
     have:=hEX.low a e;rcases List.mem_cons.1 c with c|c
     ·omega
     ·have:=hT2 _ c;have:=HRw.out;omega) (fun c=>by have:=hT2 _ c;have:=HRw.out;omega) hRX.blk hEX.ok HK2.out)
   rw[List.length_map,hlf]at CR;have HRX:=Lib.hid hRX;simp only[fvV]at hV;clear hR bb hM hRX hEX hLf hlf;go_wp2_with fail;refine CR.out.mono ?_;rintro r wz ⟨b,s',k',hF,rfl,hk',hI',hbk,hwz⟩;have h9:=HRX.out.cellT hbk hwz (fun x c=>by rcases hT2 x c with rfl|rfl<;>simp);have hkp:Kept R Z w wz:=by
    have q1:Kept R Z w V:=HKp.out.trans (Kept.of_below BR.out (fun z hz=>by have:=HZ.out z hz;have:=HsV.out;omega) (Nat.le_of_lt H0.out.blk.lt));exact q1.trans (Kept.wr hwz (fun x c=>by
     rcases List.mem_cons.1 c with c|c
     ·subst c;exact⟨Nat.le_refl _,fun hz=>HRX.out.rz (by simp[hz])⟩
     ·have e:=hT2 x c;exact⟨by have:=HRw.out;omega,fun hz=>by have:=HZ.out x hz;omega⟩) (fun z hz=>by have:=HZ.out z hz;have:=HsV.out;have:=BR.out.size;omega) (Nat.le_of_lt HRX.out.blk.lt))
   have hpr:numR (rsK l k) t=nuO true t (b,s',rsK l k'):=by
    rw[Pz.num_row _ t (rsK_ok (fun t ht=>(HE.out.ok.2 t ht).1) k),HS1.out.1];dsimp only;rw[minus_rs,HS2'.out.1];rw[←hF,HS2'.out.2]
    rfl
   have hsz:=fun (e:b=true)=>Pz.row_nu (s:=([],[])) (r':=rsK l k') (rsK_ok (fun t ht=>(HE.out.ok.2 t ht).1) k2) (by rw[hF,e]);have H9:=Lib.hid h9;have HKp9:=Lib.hid hkp;have HPR:=Lib.hid hpr;have HK9:=Lib.hid hk'
   have HBT:=Lib.hid hI';have HSZ:=Lib.hid hsz;have HEZ:=Lib.hid (HE.out.below hkp.b);clear h9 hkp hpr hF hbk hwz CR HRX hk' hsz hT2 hI'
   cases b with
   | false =>
    go_wp2_with fail;go_ret;exact .inr ⟨k',wv,ov,HPR.out,HK9.out,rfl,H9.out.less (fun z hz=>by simp[hz]),HKp9.out⟩
   | true =>
    obtain⟨na,nl,nb,bl,n0⟩:=HSZ.out rfl;obtain⟨m1,m2,m3,m4⟩:=Pz.mk_len na nb n0 nl bl;obtain⟨a1,a2⟩:=s';dsimp only at HBT HPR m1 m2 m3 m4 nl bl;have cm:=fun V=>qmake_any ⟨a1.toArray⟩ ⟨a2.toArray⟩ V (by show a1.toArray.size≤90000;rw[List.size_toArray];omega) (by show a2.toArray.size≤90000;rw[List.size_toArray];omega);rw[show (⟨a1.toArray⟩:ByteArray).data.toList=a1 from rfl,show (⟨a2.toArray⟩:ByteArray).data.toList=a2 from rfl]at cm;have HPR2:Hid (numR (rsK l k) t=.ok (rsK l k') (t++[Nd.mk 0 (negR (makeR a1 a2).1) [] 0 0])):=Lib.hid HPR.out;generalize makeR a1 a2=MR at *;obtain⟨⟨mn,md⟩,mb⟩:=MR;dsimp only at m1 m2 m3 m4 HPR2 cm;have CM:=Lib.hid cm;have c0:=HBT.out.1.c 0 _ rfl;have c1:=HBT.out.2.c 0 _ rfl;have HM3:=Lib.hid (And.intro m1 m2);clear cm HPR HSZ na nb n0 nl bl;go_wp2_with fail;refine(CM.out _).mono ?_;rintro r wm ⟨rfl,bm⟩;have H10:=Lib.hid (H9.out.below bm);have HKm:=Lib.hid (HKp9.out.trans (Kept.of_below bm (fun z hz=>H9.out.zlt z (by simp[hz])) (Nat.le_of_lt H9.out.blk.lt)));clear bm c0 c1 CM;have HWM:Hid (w.heap.size+1<wm.heap.size):=Lib.hid (H10.out.zlt _ (by simp));have H11:=Lib.hid (H10.out.alloc (.cells #[.string ⟨mn.toArray⟩,.string ⟨md.toArray⟩] 35));have bX:Below wm.heap.size wm (wm.alloc (.cells #[.string ⟨mn.toArray⟩,.string ⟨md.toArray⟩] 35)):=Below.alloc (Below.refl _ _) (Nat.le_refl _) _;have kX:=blk_new wm #[.string ⟨mn.toArray⟩,.string ⟨md.toArray⟩] 35;have HKX:=Lib.hid (HKm.out.trans (Kept.of_below bX (fun z hz=>H10.out.zlt z (by simp[hz])) (Nat.le_of_lt H10.out.blk.lt)))
    obtain⟨WX,hWX⟩:∃WX,wm.alloc (.cells #[.string ⟨mn.toArray⟩,.string ⟨md.toArray⟩] 35)=WX:=⟨_,rfl⟩;rw[hWX]at H11 bX kX HKX;have HhX:=Lib.hid hWX;have HKk:=Lib.hid kX;clear bX kX H10 HKm hWX
    go_upto_region 8 with fail
    rw[HhX.out];have c0:=HKk.out.c 0 _ rfl;have c1:=HKk.out.c 1 _ rfl;have cn:=qneg_any ⟨mn.toArray⟩ ⟨md.toArray⟩ WX (by show mn.toArray.size≤100000;rw[List.size_toArray];have:=HM3.out.1;omega) (by show md.toArray.size≤100000;rw[List.size_toArray];have:=HM3.out.2;omega);rw[show (⟨mn.toArray⟩:ByteArray).data.toList=mn from rfl,show (⟨md.toArray⟩:ByteArray).data.toList=md from rfl]at cn;generalize negR (mn,md)=NR at *;obtain⟨nn,nd⟩:=NR;have CN:=Lib.hid cn;clear cn;go_wp2_with fail;refine CN.out.mono ?_;rintro r wn ⟨rfl,bn⟩;have kn:=HKk.out.below bn;have e0:=kn.c 0 _ rfl;have e1:=kn.c 1 _ rfl;have g0:=kn.f 0 (by simp);have g1:=kn.f 1 (by simp);have k1:=kn.set 0 (by simp) (.string ⟨nn.toArray⟩);have e2:=k1.c 1 _ rfl;have g2:=k1.f 1 (by simp);have k2':=k1.set 1 (by simp) (.string ⟨nd.toArray⟩);have hst:WrB [wm.heap.size] wn ((wn.setCell ⟨wm.heap.size,0,none⟩ (.string ⟨nn.toArray⟩)).setCell ⟨wm.heap.size,1,none⟩ (.string ⟨nd.toArray⟩)):=(WrB.of_set _ wm.heap.size 0 _ List.mem_cons_self).trans (WrB.of_set _ wm.heap.size 1 _ List.mem_cons_self);have hn:=H11.out.below bn;have H12:=Lib.hid (hn.wr hst (fun x c=>by have:=List.mem_singleton.1 c;subst this;exact List.mem_cons_self));have HK12:=Lib.hid ((HKX.out.trans (Kept.of_below bn (fun z hz=>H11.out.zlt z (by simp[hz])) (Nat.le_of_lt H11.out.blk.lt))).trans (Kept.wr hst (fun x c=>by
      have e:=List.mem_singleton.1 c;exact⟨by have:=HKX.out.b.size;have:=HRw.out;have:=HWM.out;omega,fun hz=>by have:=HZ.out x hz;have:=HWM.out;omega⟩) (fun z hz=>hn.zlt z (by simp[hz])) (Nat.le_of_lt hn.blk.lt)))
    have HKk2:=Lib.hid k2';clear kn k1 k2' hst hn bn c0 c1 CN
    go_upto_region 10 with fail
    generalize (wn.setCell ⟨wm.heap.size,0,none⟩ (.string ⟨nn.toArray⟩)).setCell ⟨wm.heap.size,1,none⟩ (.string ⟨nd.toArray⟩)=wq at H12 HK12 HKk2 ⊢;clear e0 e1 e2 g0 g1 g2;have c0:=HKk2.out.c 0 _ rfl;have c1:=HKk2.out.c 1 _ rfl;have CL:=Lib.hid (play_any (Nd.mk 0 ((nn,nd)) [] 0 0) H12.out HTl.out);go_wp2_with fail;refine CL.out.mono ?_;rintro r wf ⟨ov2,rfl,hf1,hf2⟩;have HF1:=Lib.hid hf1;have HF2:=Lib.hid hf2
    clear hf1 hf2 CL c0 c1;go_wp2_with fail;go_ret;exact .inl ⟨k',_,wv,ov2,HPR2.out,HK9.out,rfl,HF1.out.less (fun z hz=>by simp[hz]),HK12.out.trans (HF2.out.less (fun z hz=>by simp[hz]))⟩
end Go.Proofs.YtnichceiafandaaGreatDoor
