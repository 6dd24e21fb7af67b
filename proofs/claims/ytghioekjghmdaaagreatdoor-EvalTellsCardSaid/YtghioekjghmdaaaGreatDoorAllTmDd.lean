/- Own work. -/
import Derived.Test.YtghioekjghmdaaaGreatDoorTk
import Derived.Test.YtghioekjghmdaaaGreatDoorAllTmDM
set_option linter.unusedSimpArgs false
set_option linter.unusedVariables false
set_option maxHeartbeats 4000000
set_option maxRecDepth 100000
namespace Go.Proofs.YtghioekjghmdaaaGreatDoor
open Go.RowKit
open Tm (Nd Tr arN arI astB okN formB treeOf stk mkT)
theorem reck_depth(p:Option Addr)(c:Nat)(t:List Nd)(w0 w:World)  (row:Option Nat) (hrow:∀b,row=some b→w0.heap.size≤b∧b<w.heap.size) (I:World→Prop) (J:Nat→World→List Nat→Prop)
  (hI:Hid (∀V V' ob,I V→V.grownBy V' ob→(∀k,ob=some k→w.heap.size≤k)→I V')) (hJ:Hid (∀n V V' ob l,J n V l→V.grownBy V' ob→(∀k,ob=some k→k<n∧w.heap.size≤k)→J n V' l))
  (CV:Hid (∀ (k:Nat) (x:Nd) (S L:List Tr) (V:World) (q:Option Addr) (d:Nat),t[k]?=some x→stk t k=some (S++L)→arN x.op=some L.length→Below w0.heap.size w0 V→w.heap.size≤V.heap.size→I V→L.length≤d→RowsG encZ 1 V q (L.map (Tr.fold Tm.dpF)) →
   Calls Tryz.prog 95 #[.agg #[.int .i64 x.op,.string ⟨x.num.1.toArray⟩,.string ⟨x.num.2.toArray⟩,.string ⟨x.ast.toArray⟩,.int .i64 x.a,.int .i64 x.b],.slice q L.length d] V (fun e w'=>e=.returned (.int .i64 (((Tm.dpF x (L.map (Tr.fold Tm.dpF))):Nat):Int))∧V.grownBy w' row∧I w'∧J V.heap.size w' (L.map (Tr.fold Tm.dpF)))))
  (hi0:I w) (hw:Below w0.heap.size w0 w) (hg:GoodX w0) (ht:t.length≤2000) (hT:Nds w0 p t) :
  Calls Tryz.prog 94 #[.slice p t.length c,.func (.func 95) #[] #[]] w (fun e w'=>∃a,e=.returned (.tuple #[.int .i64 ((a:Nat):Int),.bool (formB t)])∧Below w0.heap.size w0 w'∧w.heap.size≤w'.heap.size∧I w'∧(formB t=true→Reck Tm.dpF J t a w')∧(formB t=false→a=0)):=by
 have HT:=zh hT;have HG:=zh hg;have HW0:=zh hw;have HI0:=zh hi0
 clear hT hg hw hi0;go_enter Tryz.func94,Tryz.ntmps94;go_wp2_with fail
 go_loopw [7,18] (fun lv iv wr=>∃ (k:Nat) (st:List Tr) (a:Option Addr) (n cs:Nat),k≤t.length∧iv=.int .i64 k∧lv=.slice a n cs∧RkI encZ 3 Tm.dpF t w0 w.heap.size I J k st a n cs wr) (fun _ iv _=>t.length-(intOf iv).toNat)
 case atStart=>exact⟨0,[],none,0,0,Nat.zero_le _,rfl,rfl,⟨own_nil _,rfl,rfl,HW0.out,Nat.le_refl _,HI0.out,fun h=>absurd h (Nat.lt_irrefl 0)⟩⟩
 case round =>
  obtain⟨k,st,a,n,cs,hk,rfl,rfl,hR⟩:=hrel;have HI:=zh hR;have HNn:Hid (n=st.length):=zh hR.len;have hnk:n≤k:=by
   have e:=Tm.stk_fl hR.stk hk;have:=Tm.len_fl st;have:=HNn.out;omega
  clear hR HI0;by_cases hlt:k<t.length
  ·have hki:(k:Int)<(t.length:Int):=by omega
   obtain⟨x,hx⟩:∃x,t[k]?=some x:=⟨_,List.getElem?_eq_getElem hlt⟩;have HX:=zh hx;obtain⟨bp,op,rfl,k0,k1,k2,k3,k4,k5⟩:=nds_rule (HT.out.below HI.out.lo) hx;have bw:=Below.refl wr.heap.size wr;have q0:=k0 _ bw;have q1:=k1 _ bw;have q2:=k2 _ bw;have q3:=k3 _ bw;have q4:=k4 _ bw;have q5:=k5 _ bw
   clear k0 k1 k2 k3 k4 k5 hx bw
   go_upto_region 8 with fail
   obtain⟨U,hU,bU,s1,r0,r1,r2,r3,r4,r5⟩:=lay6 (Below.refl wr.heap.size wr) (.int .i64 x.op) (.string ⟨x.num.1.toArray⟩) (.string ⟨x.num.2.toArray⟩) (.string ⟨x.ast.toArray⟩) (.int .i64 x.a) (.int .i64 x.b) 55;have HS8:Hid (NdS wr.heap.size x U):=zh (by rw[←hU];exact nds_new wr x 55);rw[hU];clear hU s1 q0 q1 q2 q3 q4 q5 r1 r2 r3 r4 r5;have HIU:=zh (HI.out.calm hI hJ bU);have hbB:w.heap.size≤wr.heap.size:=HI.out.sz;have HAB:Hid (∀g,a=some ⟨g,0,none⟩→g<wr.heap.size):=zh fun g h=>by
    rcases own_form HI.out.own with ⟨e,_⟩|⟨g',e,_,h2,_⟩
    ·rw[h]at e;cases e
    ·rw[h]at e;cases e;exact h2
   generalize wr.heap.size=bn at *;have b1:=Below.refl U.heap.size U;clear bU;go_wp2_with fail;refine(tarity_any x.op U (HG.out.below HIU.out.lo)).mono ?_;rintro e V ⟨rfl,ba⟩;have HI3:=zh (HIU.out.calm hI hJ ba);have HS0:=zh (HS8.out.grown (grw_none ba none) (by simp));clear ba b1 r0 HIU HS8;have HLV:=zh HI3.out.lo;have HSZ:Hid (w.heap.size≤V.drew.heap.size):=zh HI3.out.sz
   cases ha:arN x.op with
   | none =>
    have hn1:arI x.op=-1:=by unfold arI;rw[ha]
    have HF:=zh (Tm.step_no HX.out HI3.out.stk (.inl ha));rw[hn1];clear ha hn1;go_wp2_with fail;refine bodyPost_ret (v:=.tuple #[.int .i64 0,.bool false]) (by simp[results,Tryz.results94,go_sem]) rfl ?_;exact⟨0,by rw[HF.out]<;>rfl,HLV.out,HI3.out.sz,HI3.out.inv,(fun h=>by rw[HF.out]at h;cases h),fun _=>rfl⟩
   | some m =>
    have hn1:arI x.op=(m:Int):=by unfold arI;rw[ha]
    rw[hn1];by_cases hm:m≤n
    ·obtain⟨S,L,hSL,hSq,hLm,hstk,hms,hki2⟩:=stk_step Tm.dpF HX.out HI3.out.stk ha (by have:=HNn.out;omega);obtain⟨q,hq⟩:∃q,n=q+m:=⟨n-m,by omega⟩;have hSq:S.length=q:=by have:=HNn.out;omega
     have HST:=zh hSL;have HSTK:=zh hstk;have HMS:=zh hms;have HKI:=zh hki2;have HAR:=zh ha;obtain⟨Y,hY⟩:∃Y,Tm.dpF x (L.map (Tr.fold Tm.dpF))=Y:=⟨_,rfl⟩;have HY:=zh hY;rw[hY]at HMS;have HIV:Hid (I V.drew):=zh (hI.out _ _ _ HI3.out.inv (grw_drew V) (by simp));have HNR:Hid (row≠some bn):=zh fun h=>by have:=(hrow bn h).2;omega
     have HRW:Hid (∀j,row=some j→w0.heap.size≤j):=zh fun j h=>(hrow j h).1;have hm1:¬(m:Int)<0:=by omega
     have hwr:wrap64 ((n:Int)-(m:Int))=(q:Int):=(IntWalk.wrap64_in _ ⟨by omega,by omega⟩).trans (by omega);have hwr2:IntKind.i64.wrap ((n:Int)-(m:Int))=(q:Int):=(IntWalk.i64_in _ (by omega)).trans (by omega);have HWN:Hid (wrap64 (n:Int)=(n:Int)∧IntKind.i64.wrap (n:Int)=(n:Int)):=zh ⟨IntWalk.wrap64_in _ ⟨by omega,by omega⟩,IntWalk.i64_in _ (by omega)⟩;have HWR:=zh (And.intro hwr hwr2);clear hwr hwr2;have hq0:¬(q:Int)<0:=by omega
     clear hSL hstk hms hki2 ha hn1 hY;by_cases h0:m=0
     ·have hL0:L=[]:=List.length_eq_zero_iff.1 (by omega);have hqn:n=q:=by omega
      rcases own_form HI3.out.own with ⟨ea,en,ec,el⟩|⟨g,ea,hgB,hgV,hgl,hgc⟩
      ·have hS0:S=[]:=List.length_eq_zero_iff.1 (by omega);have hq00:q=0:=by omega
       subst h0 hqn hq00 ea ec;clear en el;have HO:Hid (OwnG encZ 1 3 w.heap.size V.drew (Value.slice none 0 0) ([]:List Nat)):=zh (own_nil _);have HNO:Hid ((Value.slice none 0 0).ownBlock=none∨(Value.slice none 0 0).ownBlock≠row):=zh (.inl rfl);have HNG:Hid ((Value.slice none 0 0).ownBlock≠some bn):=zh (by simp[Value.ownBlock]);have HOG:Hid (∀j,(Value.slice none 0 0).ownBlock=some j→w0.heap.size≤j):=zh (fun j h=>by simp[Value.ownBlock]at h);have HOW:Hid (∀j,(Value.slice none 0 0).ownBlock=some j→w.heap.size≤j):=zh (fun j h=>by simp[Value.ownBlock]at h);have HOJ:Hid (∀j,(Value.slice none 0 0).ownBlock=some j→j<V.drew.heap.size∧w.heap.size≤j):=zh (fun j h=>by simp[Value.ownBlock]at h);have HRL:Hid (([]:List Nat).length≤2000):=zh (by simp);have HYY:Hid (([]:List Nat)++[Y]=(S++[mkT x L]).map (Tr.fold Tm.dpF)):=zh (by rw[HMS.out,hS0];rfl);have HCV:Hid (Calls Tryz.prog 95 #[.agg #[.int .i64 x.op,.string ⟨x.num.1.toArray⟩,.string ⟨x.num.2.toArray⟩,.string ⟨x.ast.toArray⟩,.int .i64 x.a,.int .i64 x.b],.slice none 0 0] V.drew (fun e w'=>e=.returned (.int .i64 ((Y:Nat):Int))∧V.drew.grownBy w' row∧I w'∧J V.drew.heap.size w' (L.map (Tr.fold Tm.dpF)))):=zh (by
        have k0:=CV.out k x S L V.drew none 0 HX.out (HST.out▸HI3.out.stk) (by rw[hLm];exact HAR.out) HLV.out.drew HSZ.out HIV.out (by omega) (by rw[hL0];exact RowsG.nil _ _);rw[HY.out,hLm]at k0;exact k0)
       clear CV;have rn0:∀v,NdS bn x v→v.cell? ⟨bn,0,none⟩=some (.int .i64 x.op):=fun v h=>h.c 0 _ rfl;have rn1:∀v,NdS bn x v→v.cell? ⟨bn,1,none⟩=some (.string ⟨x.num.1.toArray⟩):=fun v h=>h.c 1 _ rfl;have rn2:∀v,NdS bn x v→v.cell? ⟨bn,2,none⟩=some (.string ⟨x.num.2.toArray⟩):=fun v h=>h.c 2 _ rfl;have rn3:∀v,NdS bn x v→v.cell? ⟨bn,3,none⟩=some (.string ⟨x.ast.toArray⟩):=fun v h=>h.c 3 _ rfl;have rn4:∀v,NdS bn x v→v.cell? ⟨bn,4,none⟩=some (.int .i64 x.a):=fun v h=>h.c 4 _ rfl;have rn5:∀v,NdS bn x v→v.cell? ⟨bn,5,none⟩=some (.int .i64 x.b):=fun v h=>h.c 5 _ rfl;obtain⟨hwr,hwr2⟩:=HWR.out;clear HWR;go_wp2_with fail;refine tkG (S:=NdS bn x) HS0.out.drew (fun hH0=>?_);refine sch_in [0,1,2,3,4,5,6,7] ?_
       iterate 8 (refine scY ?_;try simp only[Act.put,qA,qB,qC,qD,qE,qF])
       refine sch_out ?_;refine tkR 8 (fun K hK=>?_)
       go_simp
       refine HCV.out.mono ?_;rintro e x1 ⟨rfl,hg1,hi1,hj1⟩
       (try go_wp2_with fail)
       have hS1:=HS0.out.drew.grown hg1 HNR.out;refine hK.out _ _ hS1 (fun hH1=>?_);clear hK
       try simp only[Act.put,qA,qB,qC,qD,qE,qF]
       refine tkR 9 (fun K hK=>?_)
       go_simp
       have ha1:x1.grownBy (x1.alloc (.cells #[.int .i64 ((Y:Nat):Int)] 3)) none:=grw_none (Below.alloc (Below.refl _ _) (Nat.le_refl _) _) none;have hS2:=hS1.grown ha1 (by simp);refine hK.out _ _ hS2 (fun hH2=>?_);clear hK
       try simp only[Act.put,qA,qB,qC,qD,qE,qF]
       refine tkR 10 (fun K hK=>?_);rw[if_pos (by rfl)];have hO1:=World.ownsRow.kept (World.ownsRow.kept HO.out hg1 HNO.out) ha1 (Decidable.or_iff_not_imp_left.2 fun c=>c);have hx1:w.heap.size≤x1.heap.size:=Nat.le_trans HSZ.out hg1.size;refine wp_append_G _ _ 91 3 rfl Tryz.underlying91 numInfo rfl (by decide) (by decide) (fun _=>rfl) encZ_one w.heap.size (Value.slice none 0 0) ([]:List Nat) rfl hO1 ⟨x1.heap.size,0,none⟩ Y 1 rfl (rowsOne (enc:=encZ) (k:=1) x1 Y 3 _ rfl) (by have:=HRL.out;omega) (by simp;omega) ?_;intro v' w4 ho4 hg4 hl4;have hS4:=hS2.grown hg4 HNG.out;rw[HYY.out]at ho4;obtain⟨p5,c5,rfl,hc5,_,_⟩:=ownG_rows (enc:=encZ) (k:=1) (fun _=>rfl) ho4;obtain⟨n5,hn5⟩:∃n5,((S++[mkT x L]).map (Tr.fold Tm.dpF)).length=n5:=⟨_,rfl⟩;have HNL:Hid (n5=(S++[mkT x L]).length):=zh (by rw[←hn5,List.length_map]);rw[hn5]at ho4 ⊢;clear hn5 hc5;refine hK.out _ _ hS4 (fun hH3=>?_);clear hK
       try simp only[Act.put,qA,qB,qC,qD,qE,qF]
       refine sch_in [11] ?_
       iterate 1 (refine scY ?_;try simp only[Act.put,qA,qB,qC,qD,qE,qF])
       refine sch_out ?_;refine tkD ?_;have HE1:=zh ho4;have HLO:Hid (Below w0.heap.size w0 w4):=zh (Below.grown (Below.grown (Below.grown HLV.out.drew hg1 HLV.out.size HRW.out) ha1 (Nat.le_trans HLV.out.size hg1.size) (by simp)) hg4 (Nat.le_trans (Nat.le_trans HLV.out.size hg1.size) ha1.size) HOG.out);have HIN:Hid (I w4):=zh (hI.out _ _ _ (hI.out _ _ _ hi1 ha1 (by simp)) hg4 HOW.out);have HJN:Hid (J V.drew.heap.size w4 (L.map (Tr.fold Tm.dpF))):=zh (hJ.out _ _ _ _ _ (hJ.out _ _ _ _ _ hj1 ha1 (by simp)) hg4 HOJ.out);have HSN:Hid (w.heap.size≤w4.heap.size):=zh (Nat.le_trans HSZ.out (Nat.le_trans hg1.size (Nat.le_trans ha1.size hg4.size)));clear rn0 rn1 rn2 rn3 rn4 rn5;clear hH0 hH1 hH2 hH3 hS1 hS2 hS4 hg1 hg4 hl4 ha1 hO1 ho4 hi1 hj1 hx1;go_wp2_with fail;go_roundw
       case rel=>exact⟨k+1,S++[mkT x L],_,_,_,hlt,by go_num,rfl,⟨HE1.out,HNL.out,HSTK.out,HLO.out,HSN.out,HIN.out,fun _=>⟨_,_,List.getLast?_concat,by rw[HKI.out];exact HJN.out⟩⟩⟩
       case measure=>simp[intOf];omega
      ·have hgb:=HAB.out g ea;subst h0 hqn ea;by_cases hcs:cs=n
       ·subst hcs;have HO:Hid (OwnG encZ 1 3 w.heap.size V.drew (Value.slice (some ⟨g,0,none⟩) cs cs) (S.map (Tr.fold Tm.dpF))):=zh (by
         have k1:=own_take (enc:=encZ) (k:=1) (n:=cs) (q:=cs) (fun _=>rfl) HI3.out.own (by omega);rw[HST.out,List.map_append,List.take_left' (by rw[List.length_map];exact hSq)]at k1;exact ownG_below k1 (Below.drew (Below.refl _ _)))
        have HNO:Hid ((Value.slice (some ⟨g,0,none⟩) cs cs).ownBlock=none∨(Value.slice (some ⟨g,0,none⟩) cs cs).ownBlock≠row):=zh (.inr fun h=>by have:=(hrow g h.symm).2;omega);have HNG:Hid ((Value.slice (some ⟨g,0,none⟩) cs cs).ownBlock≠some bn):=zh (fun h=>by have:g=bn:=Option.some.inj h;omega);have HOG:Hid (∀j,(Value.slice (some ⟨g,0,none⟩) cs cs).ownBlock=some j→w0.heap.size≤j):=zh (fun j h=>by have:g=j:=Option.some.inj h;have:=HW0.out.size;omega);have HOW:Hid (∀j,(Value.slice (some ⟨g,0,none⟩) cs cs).ownBlock=some j→w.heap.size≤j):=zh (fun j h=>by have:g=j:=Option.some.inj h;omega);have HOJ:Hid (∀j,(Value.slice (some ⟨g,0,none⟩) cs cs).ownBlock=some j→j<V.drew.heap.size∧w.heap.size≤j):=zh (fun j h=>by have:g=j:=Option.some.inj h;have hq:V.drew.heap.size=V.heap.size:=rfl;omega);have HRL:Hid ((S.map (Tr.fold Tm.dpF)).length≤2000):=zh (by rw[List.length_map];omega);have HYY:Hid ((S.map (Tr.fold Tm.dpF))++[Y]=(S++[mkT x L]).map (Tr.fold Tm.dpF)):=zh HMS.out.symm;have HCV:Hid (Calls Tryz.prog 95 #[.agg #[.int .i64 x.op,.string ⟨x.num.1.toArray⟩,.string ⟨x.num.2.toArray⟩,.string ⟨x.ast.toArray⟩,.int .i64 x.a,.int .i64 x.b],.slice (some ⟨g,0,none⟩) 0 0] V.drew (fun e w'=>e=.returned (.int .i64 ((Y:Nat):Int))∧V.drew.grownBy w' row∧I w'∧J V.drew.heap.size w' (L.map (Tr.fold Tm.dpF)))):=zh (by
         have k0:=CV.out k x S L V.drew (some ⟨g,0,none⟩) 0 HX.out (HST.out▸HI3.out.stk) (by rw[hLm];exact HAR.out) HLV.out.drew HSZ.out HIV.out (by omega) (by rw[hL0];exact RowsG.nil _ _);rw[HY.out,hLm]at k0;exact k0)
        clear CV;have rn0:∀v,NdS bn x v→v.cell? ⟨bn,0,none⟩=some (.int .i64 x.op):=fun v h=>h.c 0 _ rfl;have rn1:∀v,NdS bn x v→v.cell? ⟨bn,1,none⟩=some (.string ⟨x.num.1.toArray⟩):=fun v h=>h.c 1 _ rfl;have rn2:∀v,NdS bn x v→v.cell? ⟨bn,2,none⟩=some (.string ⟨x.num.2.toArray⟩):=fun v h=>h.c 2 _ rfl;have rn3:∀v,NdS bn x v→v.cell? ⟨bn,3,none⟩=some (.string ⟨x.ast.toArray⟩):=fun v h=>h.c 3 _ rfl;have rn4:∀v,NdS bn x v→v.cell? ⟨bn,4,none⟩=some (.int .i64 x.a):=fun v h=>h.c 4 _ rfl;have rn5:∀v,NdS bn x v→v.cell? ⟨bn,5,none⟩=some (.int .i64 x.b):=fun v h=>h.c 5 _ rfl;have hqc:cs≤cs:=by omega
        clear hq HWR;obtain⟨hwr3,hwr4⟩:=HWN.out;clear HWN;go_wp2_with fail;refine tkG (S:=NdS bn x) HS0.out.drew (fun hH0=>?_);refine sch_in [0,1,2,3,4,5,6,7] ?_
        iterate 8 (refine scY ?_;try simp only[Act.put,qA,qB,qC,qD,qE,qF])
        refine sch_out ?_;refine tkR 8 (fun K hK=>?_)
        go_simp
        refine HCV.out.mono ?_;rintro e x1 ⟨rfl,hg1,hi1,hj1⟩
        (try go_wp2_with fail)
        have hS1:=HS0.out.drew.grown hg1 HNR.out;refine hK.out _ _ hS1 (fun hH1=>?_);clear hK
        try simp only[Act.put,qA,qB,qC,qD,qE,qF]
        refine tkR 9 (fun K hK=>?_)
        go_simp
        have ha1:x1.grownBy (x1.alloc (.cells #[.int .i64 ((Y:Nat):Int)] 3)) none:=grw_none (Below.alloc (Below.refl _ _) (Nat.le_refl _) _) none;have hS2:=hS1.grown ha1 (by simp);refine hK.out _ _ hS2 (fun hH2=>?_);clear hK
        try simp only[Act.put,qA,qB,qC,qD,qE,qF]
        refine tkR 10 (fun K hK=>?_);rw[if_pos (by rfl)];have hO1:=World.ownsRow.kept (World.ownsRow.kept HO.out hg1 HNO.out) ha1 (Decidable.or_iff_not_imp_left.2 fun c=>c);have hx1:w.heap.size≤x1.heap.size:=Nat.le_trans HSZ.out hg1.size;refine wp_append_G _ _ 91 3 rfl Tryz.underlying91 numInfo rfl (by decide) (by decide) (fun _=>rfl) encZ_one w.heap.size (Value.slice (some ⟨g,0,none⟩) cs cs) (S.map (Tr.fold Tm.dpF)) rfl hO1 ⟨x1.heap.size,0,none⟩ Y 1 rfl (rowsOne (enc:=encZ) (k:=1) x1 Y 3 _ rfl) (by have:=HRL.out;omega) (by simp;omega) ?_;intro v' w4 ho4 hg4 hl4;have hS4:=hS2.grown hg4 HNG.out;rw[HYY.out]at ho4;obtain⟨p5,c5,rfl,hc5,_,_⟩:=ownG_rows (enc:=encZ) (k:=1) (fun _=>rfl) ho4;obtain⟨n5,hn5⟩:∃n5,((S++[mkT x L]).map (Tr.fold Tm.dpF)).length=n5:=⟨_,rfl⟩;have HNL:Hid (n5=(S++[mkT x L]).length):=zh (by rw[←hn5,List.length_map]);rw[hn5]at ho4 ⊢;clear hn5 hc5;refine hK.out _ _ hS4 (fun hH3=>?_);clear hK
        try simp only[Act.put,qA,qB,qC,qD,qE,qF]
        refine sch_in [11] ?_
        iterate 1 (refine scY ?_;try simp only[Act.put,qA,qB,qC,qD,qE,qF])
        refine sch_out ?_;refine tkD ?_;have HE1:=zh ho4;have HLO:Hid (Below w0.heap.size w0 w4):=zh (Below.grown (Below.grown (Below.grown HLV.out.drew hg1 HLV.out.size HRW.out) ha1 (Nat.le_trans HLV.out.size hg1.size) (by simp)) hg4 (Nat.le_trans (Nat.le_trans HLV.out.size hg1.size) ha1.size) HOG.out);have HIN:Hid (I w4):=zh (hI.out _ _ _ (hI.out _ _ _ hi1 ha1 (by simp)) hg4 HOW.out);have HJN:Hid (J V.drew.heap.size w4 (L.map (Tr.fold Tm.dpF))):=zh (hJ.out _ _ _ _ _ (hJ.out _ _ _ _ _ hj1 ha1 (by simp)) hg4 HOJ.out);have HSN:Hid (w.heap.size≤w4.heap.size):=zh (Nat.le_trans HSZ.out (Nat.le_trans hg1.size (Nat.le_trans ha1.size hg4.size)));clear rn0 rn1 rn2 rn3 rn4 rn5;clear hH0 hH1 hH2 hH3 hS1 hS2 hS4 hg1 hg4 hl4 ha1 hO1 ho4 hi1 hj1 hx1;go_wp2_with fail;go_roundw
        case rel=>exact⟨k+1,S++[mkT x L],_,_,_,hlt,by go_num,rfl,⟨HE1.out,HNL.out,HSTK.out,HLO.out,HSN.out,HIN.out,fun _=>⟨_,_,List.getLast?_concat,by rw[HKI.out];exact HJN.out⟩⟩⟩
        case measure=>simp[intOf];omega
       ·
        have HO:Hid (OwnG encZ 1 3 w.heap.size V.drew (Value.slice (some ⟨g,0,none⟩) n cs) (S.map (Tr.fold Tm.dpF))):=zh (by
         have k1:=own_take (enc:=encZ) (k:=1) (n:=n) (q:=n) (fun _=>rfl) HI3.out.own (by omega);rw[HST.out,List.map_append,List.take_left' (by rw[List.length_map];exact hSq)]at k1;exact ownG_below k1 (Below.drew (Below.refl _ _)))
        have HNO:Hid ((Value.slice (some ⟨g,0,none⟩) n cs).ownBlock=none∨(Value.slice (some ⟨g,0,none⟩) n cs).ownBlock≠row):=zh (.inr fun h=>by have:=(hrow g h.symm).2;omega);have HNG:Hid ((Value.slice (some ⟨g,0,none⟩) n cs).ownBlock≠some bn):=zh (fun h=>by have:g=bn:=Option.some.inj h;omega);have HOG:Hid (∀j,(Value.slice (some ⟨g,0,none⟩) n cs).ownBlock=some j→w0.heap.size≤j):=zh (fun j h=>by have:g=j:=Option.some.inj h;have:=HW0.out.size;omega);have HOW:Hid (∀j,(Value.slice (some ⟨g,0,none⟩) n cs).ownBlock=some j→w.heap.size≤j):=zh (fun j h=>by have:g=j:=Option.some.inj h;omega);have HOJ:Hid (∀j,(Value.slice (some ⟨g,0,none⟩) n cs).ownBlock=some j→j<V.drew.heap.size∧w.heap.size≤j):=zh (fun j h=>by have:g=j:=Option.some.inj h;have hq:V.drew.heap.size=V.heap.size:=rfl;omega);have HRL:Hid ((S.map (Tr.fold Tm.dpF)).length≤2000):=zh (by rw[List.length_map];omega);have HYY:Hid ((S.map (Tr.fold Tm.dpF))++[Y]=(S++[mkT x L]).map (Tr.fold Tm.dpF)):=zh HMS.out.symm;have HCV:Hid (Calls Tryz.prog 95 #[.agg #[.int .i64 x.op,.string ⟨x.num.1.toArray⟩,.string ⟨x.num.2.toArray⟩,.string ⟨x.ast.toArray⟩,.int .i64 x.a,.int .i64 x.b],.slice (some ⟨g,n,none⟩) 0 (cs-n)] V.drew (fun e w'=>e=.returned (.int .i64 ((Y:Nat):Int))∧V.drew.grownBy w' row∧I w'∧J V.drew.heap.size w' (L.map (Tr.fold Tm.dpF)))):=zh (by
         have k0:=CV.out k x S L V.drew (some ⟨g,n,none⟩) (cs-n) HX.out (HST.out▸HI3.out.stk) (by rw[hLm];exact HAR.out) HLV.out.drew HSZ.out HIV.out (by omega) (by rw[hL0];exact RowsG.nil _ _);rw[HY.out,hLm]at k0;exact k0)
        clear CV;have rn0:∀v,NdS bn x v→v.cell? ⟨bn,0,none⟩=some (.int .i64 x.op):=fun v h=>h.c 0 _ rfl;have rn1:∀v,NdS bn x v→v.cell? ⟨bn,1,none⟩=some (.string ⟨x.num.1.toArray⟩):=fun v h=>h.c 1 _ rfl;have rn2:∀v,NdS bn x v→v.cell? ⟨bn,2,none⟩=some (.string ⟨x.num.2.toArray⟩):=fun v h=>h.c 2 _ rfl;have rn3:∀v,NdS bn x v→v.cell? ⟨bn,3,none⟩=some (.string ⟨x.ast.toArray⟩):=fun v h=>h.c 3 _ rfl;have rn4:∀v,NdS bn x v→v.cell? ⟨bn,4,none⟩=some (.int .i64 x.a):=fun v h=>h.c 4 _ rfl;have rn5:∀v,NdS bn x v→v.cell? ⟨bn,5,none⟩=some (.int .i64 x.b):=fun v h=>h.c 5 _ rfl;have hqc:n≤cs:=by omega
        clear hq HWR;obtain⟨hwr3,hwr4⟩:=HWN.out;clear HWN;go_wp2_with fail;refine tkG (S:=NdS bn x) HS0.out.drew (fun hH0=>?_);refine sch_in [0,1,2,3,4,5,6,7] ?_
        iterate 8 (refine scY ?_;try simp only[Act.put,qA,qB,qC,qD,qE,qF])
        refine sch_out ?_;refine tkR 8 (fun K hK=>?_)
        go_simp
        refine HCV.out.mono ?_;rintro e x1 ⟨rfl,hg1,hi1,hj1⟩
        (try go_wp2_with fail)
        have hS1:=HS0.out.drew.grown hg1 HNR.out;refine hK.out _ _ hS1 (fun hH1=>?_);clear hK
        try simp only[Act.put,qA,qB,qC,qD,qE,qF]
        refine tkR 9 (fun K hK=>?_)
        go_simp
        have ha1:x1.grownBy (x1.alloc (.cells #[.int .i64 ((Y:Nat):Int)] 3)) none:=grw_none (Below.alloc (Below.refl _ _) (Nat.le_refl _) _) none;have hS2:=hS1.grown ha1 (by simp);refine hK.out _ _ hS2 (fun hH2=>?_);clear hK
        try simp only[Act.put,qA,qB,qC,qD,qE,qF]
        refine tkR 10 (fun K hK=>?_);rw[if_pos (by rfl)];have hO1:=World.ownsRow.kept (World.ownsRow.kept HO.out hg1 HNO.out) ha1 (Decidable.or_iff_not_imp_left.2 fun c=>c);have hx1:w.heap.size≤x1.heap.size:=Nat.le_trans HSZ.out hg1.size;refine wp_append_G _ _ 91 3 rfl Tryz.underlying91 numInfo rfl (by decide) (by decide) (fun _=>rfl) encZ_one w.heap.size (Value.slice (some ⟨g,0,none⟩) n cs) (S.map (Tr.fold Tm.dpF)) rfl hO1 ⟨x1.heap.size,0,none⟩ Y 1 rfl (rowsOne (enc:=encZ) (k:=1) x1 Y 3 _ rfl) (by have:=HRL.out;omega) (by simp;omega) ?_;intro v' w4 ho4 hg4 hl4;have hS4:=hS2.grown hg4 HNG.out;rw[HYY.out]at ho4;obtain⟨p5,c5,rfl,hc5,_,_⟩:=ownG_rows (enc:=encZ) (k:=1) (fun _=>rfl) ho4;obtain⟨n5,hn5⟩:∃n5,((S++[mkT x L]).map (Tr.fold Tm.dpF)).length=n5:=⟨_,rfl⟩;have HNL:Hid (n5=(S++[mkT x L]).length):=zh (by rw[←hn5,List.length_map]);rw[hn5]at ho4 ⊢;clear hn5 hc5;refine hK.out _ _ hS4 (fun hH3=>?_);clear hK
        try simp only[Act.put,qA,qB,qC,qD,qE,qF]
        refine sch_in [11] ?_
        iterate 1 (refine scY ?_;try simp only[Act.put,qA,qB,qC,qD,qE,qF])
        refine sch_out ?_;refine tkD ?_;have HE1:=zh ho4;have HLO:Hid (Below w0.heap.size w0 w4):=zh (Below.grown (Below.grown (Below.grown HLV.out.drew hg1 HLV.out.size HRW.out) ha1 (Nat.le_trans HLV.out.size hg1.size) (by simp)) hg4 (Nat.le_trans (Nat.le_trans HLV.out.size hg1.size) ha1.size) HOG.out);have HIN:Hid (I w4):=zh (hI.out _ _ _ (hI.out _ _ _ hi1 ha1 (by simp)) hg4 HOW.out);have HJN:Hid (J V.drew.heap.size w4 (L.map (Tr.fold Tm.dpF))):=zh (hJ.out _ _ _ _ _ (hJ.out _ _ _ _ _ hj1 ha1 (by simp)) hg4 HOJ.out);have HSN:Hid (w.heap.size≤w4.heap.size):=zh (Nat.le_trans HSZ.out (Nat.le_trans hg1.size (Nat.le_trans ha1.size hg4.size)));clear rn0 rn1 rn2 rn3 rn4 rn5;clear hH0 hH1 hH2 hH3 hS1 hS2 hS4 hg1 hg4 hl4 ha1 hO1 ho4 hi1 hj1 hx1;go_wp2_with fail;go_roundw
        case rel=>exact⟨k+1,S++[mkT x L],_,_,_,hlt,by go_num,rfl,⟨HE1.out,HNL.out,HSTK.out,HLO.out,HSN.out,HIN.out,fun _=>⟨_,_,List.getLast?_concat,by rw[HKI.out];exact HJN.out⟩⟩⟩
        case measure=>simp[intOf];omega
     ·rcases own_form HI3.out.own with ⟨ea,en,ec,el⟩|⟨g,ea,hgB,hgV,hgl,hgc⟩
      ·omega
      ·have hgb:=HAB.out g ea;subst ea hq;have HO:Hid (OwnG encZ 1 3 w.heap.size V.drew (Value.slice (some ⟨g,0,none⟩) q cs) (S.map (Tr.fold Tm.dpF))):=zh (by
        have k1:=own_take (enc:=encZ) (k:=1) (n:=(q+m)) (q:=q) (fun _=>rfl) HI3.out.own (by omega);rw[HST.out,List.map_append,List.take_left' (by rw[List.length_map];exact hSq)]at k1;exact ownG_below k1 (Below.drew (Below.refl _ _)))
       have HNO:Hid ((Value.slice (some ⟨g,0,none⟩) q cs).ownBlock=none∨(Value.slice (some ⟨g,0,none⟩) q cs).ownBlock≠row):=zh (.inr fun h=>by have:=(hrow g h.symm).2;omega);have HNG:Hid ((Value.slice (some ⟨g,0,none⟩) q cs).ownBlock≠some bn):=zh (fun h=>by have:g=bn:=Option.some.inj h;omega);have HOG:Hid (∀j,(Value.slice (some ⟨g,0,none⟩) q cs).ownBlock=some j→w0.heap.size≤j):=zh (fun j h=>by have:g=j:=Option.some.inj h;have:=HW0.out.size;omega);have HOW:Hid (∀j,(Value.slice (some ⟨g,0,none⟩) q cs).ownBlock=some j→w.heap.size≤j):=zh (fun j h=>by have:g=j:=Option.some.inj h;omega);have HOJ:Hid (∀j,(Value.slice (some ⟨g,0,none⟩) q cs).ownBlock=some j→j<V.drew.heap.size∧w.heap.size≤j):=zh (fun j h=>by have:g=j:=Option.some.inj h;have hq:V.drew.heap.size=V.heap.size:=rfl;omega);have HRL:Hid ((S.map (Tr.fold Tm.dpF)).length≤2000):=zh (by rw[List.length_map];omega);have HYY:Hid ((S.map (Tr.fold Tm.dpF))++[Y]=(S++[mkT x L]).map (Tr.fold Tm.dpF)):=zh HMS.out.symm;have HCV:Hid (Calls Tryz.prog 95 #[.agg #[.int .i64 x.op,.string ⟨x.num.1.toArray⟩,.string ⟨x.num.2.toArray⟩,.string ⟨x.ast.toArray⟩,.int .i64 x.a,.int .i64 x.b],.slice (some ⟨g,q,none⟩) m (cs-q)] V.drew (fun e w'=>e=.returned (.int .i64 ((Y:Nat):Int))∧V.drew.grownBy w' row∧I w'∧J V.drew.heap.size w' (L.map (Tr.fold Tm.dpF)))):=zh (by
        have k0:=CV.out k x S L V.drew (some ⟨g,q,none⟩) (cs-q) HX.out (HST.out▸HI3.out.stk) (by rw[hLm];exact HAR.out) HLV.out.drew HSZ.out HIV.out (by omega) (by
         have k1:=own_part (enc:=encZ) (fun _=>rfl) HI3.out.own q m;rw[HST.out,List.map_append,List.drop_left' (by rw[List.length_map];exact hSq),List.take_of_length_le (by rw[List.length_map];omega)]at k1;exact k1.below (Below.drew (Below.refl _ _)))
        rw[HY.out,hLm]at k0;exact k0)
       clear CV;have rn0:∀v,NdS bn x v→v.cell? ⟨bn,0,none⟩=some (.int .i64 x.op):=fun v h=>h.c 0 _ rfl;have rn1:∀v,NdS bn x v→v.cell? ⟨bn,1,none⟩=some (.string ⟨x.num.1.toArray⟩):=fun v h=>h.c 1 _ rfl;have rn2:∀v,NdS bn x v→v.cell? ⟨bn,2,none⟩=some (.string ⟨x.num.2.toArray⟩):=fun v h=>h.c 2 _ rfl;have rn3:∀v,NdS bn x v→v.cell? ⟨bn,3,none⟩=some (.string ⟨x.ast.toArray⟩):=fun v h=>h.c 3 _ rfl;have rn4:∀v,NdS bn x v→v.cell? ⟨bn,4,none⟩=some (.int .i64 x.a):=fun v h=>h.c 4 _ rfl;have rn5:∀v,NdS bn x v→v.cell? ⟨bn,5,none⟩=some (.int .i64 x.b):=fun v h=>h.c 5 _ rfl;have hne:¬cs=q:=by omega
       have hqm:(q:Int)≤(q:Int)+(m:Int):=by omega
       have hqc:q≤cs:=by omega
       obtain⟨hwr,hwr2⟩:=HWR.out;clear HWR;go_wp2_with fail;refine tkG (S:=NdS bn x) HS0.out.drew (fun hH0=>?_);refine sch_in [0,1,2,3,4,5,6,7] ?_
       iterate 8 (refine scY ?_;try simp only[Act.put,qA,qB,qC,qD,qE,qF])
       refine sch_out ?_;refine tkR 8 (fun K hK=>?_)
       go_simp
       refine HCV.out.mono ?_;rintro e x1 ⟨rfl,hg1,hi1,hj1⟩
       (try go_wp2_with fail)
       have hS1:=HS0.out.drew.grown hg1 HNR.out;refine hK.out _ _ hS1 (fun hH1=>?_);clear hK
       try simp only[Act.put,qA,qB,qC,qD,qE,qF]
       refine tkR 9 (fun K hK=>?_)
       go_simp
       have ha1:x1.grownBy (x1.alloc (.cells #[.int .i64 ((Y:Nat):Int)] 3)) none:=grw_none (Below.alloc (Below.refl _ _) (Nat.le_refl _) _) none;have hS2:=hS1.grown ha1 (by simp);refine hK.out _ _ hS2 (fun hH2=>?_);clear hK
       try simp only[Act.put,qA,qB,qC,qD,qE,qF]
       refine tkR 10 (fun K hK=>?_);rw[if_pos (by rfl)];have hO1:=World.ownsRow.kept (World.ownsRow.kept HO.out hg1 HNO.out) ha1 (Decidable.or_iff_not_imp_left.2 fun c=>c);have hx1:w.heap.size≤x1.heap.size:=Nat.le_trans HSZ.out hg1.size;refine wp_append_G _ _ 91 3 rfl Tryz.underlying91 numInfo rfl (by decide) (by decide) (fun _=>rfl) encZ_one w.heap.size (Value.slice (some ⟨g,0,none⟩) q cs) (S.map (Tr.fold Tm.dpF)) rfl hO1 ⟨x1.heap.size,0,none⟩ Y 1 rfl (rowsOne (enc:=encZ) (k:=1) x1 Y 3 _ rfl) (by have:=HRL.out;omega) (by simp;omega) ?_;intro v' w4 ho4 hg4 hl4;have hS4:=hS2.grown hg4 HNG.out;rw[HYY.out]at ho4;obtain⟨p5,c5,rfl,hc5,_,_⟩:=ownG_rows (enc:=encZ) (k:=1) (fun _=>rfl) ho4;obtain⟨n5,hn5⟩:∃n5,((S++[mkT x L]).map (Tr.fold Tm.dpF)).length=n5:=⟨_,rfl⟩;have HNL:Hid (n5=(S++[mkT x L]).length):=zh (by rw[←hn5,List.length_map]);rw[hn5]at ho4 ⊢;clear hn5 hc5;refine hK.out _ _ hS4 (fun hH3=>?_);clear hK
       try simp only[Act.put,qA,qB,qC,qD,qE,qF]
       refine sch_in [11] ?_
       iterate 1 (refine scY ?_;try simp only[Act.put,qA,qB,qC,qD,qE,qF])
       refine sch_out ?_;refine tkD ?_;have HE1:=zh ho4;have HLO:Hid (Below w0.heap.size w0 w4):=zh (Below.grown (Below.grown (Below.grown HLV.out.drew hg1 HLV.out.size HRW.out) ha1 (Nat.le_trans HLV.out.size hg1.size) (by simp)) hg4 (Nat.le_trans (Nat.le_trans HLV.out.size hg1.size) ha1.size) HOG.out);have HIN:Hid (I w4):=zh (hI.out _ _ _ (hI.out _ _ _ hi1 ha1 (by simp)) hg4 HOW.out);have HJN:Hid (J V.drew.heap.size w4 (L.map (Tr.fold Tm.dpF))):=zh (hJ.out _ _ _ _ _ (hJ.out _ _ _ _ _ hj1 ha1 (by simp)) hg4 HOJ.out);have HSN:Hid (w.heap.size≤w4.heap.size):=zh (Nat.le_trans HSZ.out (Nat.le_trans hg1.size (Nat.le_trans ha1.size hg4.size)));clear rn0 rn1 rn2 rn3 rn4 rn5;clear hH0 hH1 hH2 hH3 hS1 hS2 hS4 hg1 hg4 hl4 ha1 hO1 ho4 hi1 hj1 hx1;go_wp2_with fail;go_roundw
       case rel=>exact⟨k+1,S++[mkT x L],_,_,_,hlt,by go_num,rfl,⟨HE1.out,HNL.out,HSTK.out,HLO.out,HSN.out,HIN.out,fun _=>⟨_,_,List.getLast?_concat,by rw[HKI.out];exact HJN.out⟩⟩⟩
       case measure=>simp[intOf];omega
    ·obtain⟨z,hz⟩:∃z:Int,z=(n:Int)-(m:Int):=⟨_,rfl⟩;have hzn:z<0:=by omega
     have hwr:wrap64 ((n:Int)-(m:Int))=z:=(IntWalk.wrap64_in _ ⟨by have:=Tm.arN_le ha;omega,by omega⟩).trans hz.symm;have hwr2:IntKind.i64.wrap ((n:Int)-(m:Int))=z:=(IntWalk.i64_in _ (by have:=Tm.arN_le ha;omega)).trans hz.symm;have hm1:¬(m:Int)<0:=by omega
     have HF:=zh (Tm.step_no HX.out HI3.out.stk (.inr ⟨m,ha,by have:=HNn.out;omega⟩));clear ha hn1 hz;go_wp2_with fail;refine bodyPost_ret (v:=.tuple #[.int .i64 0,.bool false]) (by simp[results,Tryz.results94,go_sem]) rfl ?_;exact⟨0,by rw[HF.out]<;>rfl,HLV.out,HI3.out.sz,HI3.out.inv,(fun h=>by rw[HF.out]at h;cases h),fun _=>rfl⟩
  ·obtain rfl:k=t.length:=by omega
   have hki:¬(t.length:Int)<(t.length:Int):=by omega
   by_cases h1:n=1
   ·obtain⟨tr,rfl⟩:∃tr,st=[tr]:=by
     have hn:=HNn.out
     match st,hn with
     | [tr],_=>exact⟨tr,rfl⟩
     | [],h=>simp at h;omega
     | _::_::_,h=>simp at h;omega
    have HF:Hid (formB t=true):=zh (by rw[Tm.form_end HI.out.stk (by omega) ht];rfl);have HTR:=zh (stk_tree HI.out.stk);obtain⟨m,T,hT1,hT2⟩:=HI.out.jj (by omega);obtain rfl:tr=T:=Option.some.inj hT1;have HJ2:=zh hT2;obtain⟨p9,c9,e9,_,r9,_⟩:=ownG_rows (enc:=encZ) (k:=1) (fun _=>rfl) HI.out.own;obtain⟨b9,o9,e8,_,c8⟩:=r9 0 _ rfl;have c7:=c8 0 _ rfl;injection e9 with e9 e91 e92
    rw[e8]at e9;clear e91 e92;subst e9 h1;simp only[Nat.zero_mul,Nat.add_zero]at c7;obtain⟨Y,hY⟩:∃Y,tr.fold Tm.dpF=Y:=⟨_,rfl⟩;have HY:=zh hY.symm;rw[hY]at c7;clear hT1 hT2 r9 e8 c8 hY;go_wp2_with fail;refine bodyPost_ret (v:=.tuple #[.int .i64 ((Y:Nat):Int),.bool true]) (by simp[results,Tryz.results94,go_sem]) rfl ?_;exact⟨Y,by rw[HF.out],HI.out.lo,HI.out.sz,HI.out.inv,fun _=>⟨tr,m,HTR.out,HY.out,HJ2.out⟩,(fun h=>by rw[HF.out]at h;cases h)⟩
   ·have HF:Hid (formB t=false):=zh (by
     by_cases ht0:1≤t.length
     ·rw[Tm.form_end HI.out.stk ht0 ht];exact beq_false_of_ne (by have:=HNn.out;omega)
     ·exact Tm.form_len (.inl (by omega)))
    have h1i:¬(n:Int)=1:=by omega
    have h1b:((n:Int)==1)=false:=beq_false_of_ne h1i;go_wp2_with fail;refine bodyPost_ret (v:=.tuple #[.int .i64 0,.bool false]) (by simp[results,Tryz.results94,go_sem]) rfl ?_;exact⟨0,by rw[HF.out]<;>rfl,HI.out.lo,HI.out.sz,HI.out.inv,(fun h=>by rw[HF.out]at h;cases h),fun _=>rfl⟩
end Go.Proofs.YtghioekjghmdaaaGreatDoor
