/- Own work. -/
import Derived.Deep.RegionWith
import Derived.Test.YthgopcnagecbaaaGreatDoorAllRat2
set_option maxHeartbeats 2000000
set_option maxRecDepth 100000
namespace Go.Proofs.YthgopcnagecbaaaGreatDoor
open Go.RowKit
theorem isR_noW{n d:List UInt8}(h:isW n=false):isR (n,d)=false:=by unfold isR;rw[h];rfl
theorem isR_noN{n d:List UInt8}(h:isNat d=false):isR (n,d)=false:=by unfold isR;rw[h,Bool.and_false];rfl
theorem calm'{P:Program}{f:FuncId}{args:Array Value}{w:World}{v:Value}(c:Calls P f args w fun e w'=>e=.returned v∧w'=w):Calls P f args w fun e w'=>e=.returned v∧Below w.heap.size w w' :=
 c.mono fun _ _ ⟨he,hw⟩=>⟨he,hw▸Below.refl _ _⟩
theorem rqmay_any(n d:ByteArray)(w:World)(hn:n.size≤100000)(hd:d.size≤100000) :
  Calls Tryz.prog 21 #[.agg #[.string n,.string d]] w (GiveB w (isR (n.data.toList,d.data.toList))):=by
 have c1:∀w,Calls Tryz.prog 47 #[.string n] w (fun e w'=>e=.returned (.bool (isW n.data.toList))∧w'=w):=fun w=>(rwmay_any n w (by omega)).mono fun _ _ ⟨he,hw⟩=>⟨he,hw.symm⟩;have c2:∀w,Calls Tryz.prog 48 #[.string d] w (fun e w'=>e=.returned (.bool (isNat d.data.toList))∧w'=w):=fun w=>(rmay_any d w (by omega)).mono fun _ _ ⟨he,hw⟩=>⟨he,hw.symm⟩;have c3:∀w,Calls Tryz.prog 50 #[.string n] w (GiveS w (absW n.data.toList)):=fun w=>calm (rwabs_any n w (by omega));have hl:=absW_len n.data.toList;have c4:∀w,Calls Tryz.prog 49 #[.string ⟨(absW n.data.toList).toArray⟩,.string d] w (GiveS w (gcdS (absW n.data.toList) d.data.toList)):=fun w =>
  rgcd_any ⟨(absW n.data.toList).toArray⟩ d w (by show (absW n.data.toList).toArray.size≤_;rw[List.size_toArray];exact Nat.le_trans hl (Nat.le_trans hn (by decide))) (by omega)
 cases h1:isW n.data.toList with
 | false =>
  rw[h1]at c1;rw[isR_noW h1];clear h1 c2 c3 c4 hl hn hd;have C1:=zh c1;clear c1;go_enter Tryz.func21,Tryz.ntmps21;go_wp2_with fail;obtain⟨W,hW,BW,sW,k0,k1⟩:=box1 w (.string n) (.string d) 23;have hB:=zh (Nat.le_refl W.heap.size);rw[hW];clear hW;have b0:=Below.refl W.heap.size W;have k0':=k0 W (Below.refl _ _);have k1':=k1 W (Below.refl _ _)
  go_quiet ((go_at_call 47;exact Calls.quiet_of_same (C1.out _)))
  go_wp2_with fail;go_ret;exact⟨rfl,⟨BW.os,BW.tape,BW.output,BW.size,BW.block⟩⟩
 | true =>
  rw[h1]at c1
  cases h2:isNat d.data.toList with
  | false =>
   rw[h2]at c2;rw[isR_noN h2];clear h1 h2 c3 c4 hl hn hd;have C1:=zh c1;have C2:=zh c2;clear c1 c2;go_enter Tryz.func21,Tryz.ntmps21;go_wp2_with fail;obtain⟨W,hW,BW,sW,k0,k1⟩:=box1 w (.string n) (.string d) 23;have hB:=zh (Nat.le_refl W.heap.size);rw[hW];clear hW;have b0:=Below.refl W.heap.size W;have k0':=k0 W (Below.refl _ _);have k1':=k1 W (Below.refl _ _)
   go_quiet (first|(go_at_call 47;exact Calls.quiet_of_same (C1.out _))|(go_at_call 48;exact Calls.quiet_of_same (C2.out _)))
   go_wp2_with fail;go_ret;exact⟨rfl,⟨BW.os,BW.tape,BW.output,BW.size,BW.block⟩⟩
  | true =>
   rw[h2]at c2;by_cases h:d.data.toList=[48]
   ·rw[h,may_48];have e1:=eqB_true h;clear h1 h2 c3 c4 hn hd hl h;have C1:=zh c1;have C2:=zh c2;clear c1 c2;go_enter Tryz.func21,Tryz.ntmps21;go_wp2_with fail;obtain⟨W,hW,BW,sW,k0,k1⟩:=box1 w (.string n) (.string d) 23;have hB:=zh (Nat.le_refl W.heap.size);rw[hW];clear hW;have b0:=Below.refl W.heap.size W;have k0':=k0 W (Below.refl _ _);have k1':=k1 W (Below.refl _ _)
    go_quiet (first|(go_at_call 47;exact Calls.quiet_of_same (C1.out _))|(go_at_call 48;exact Calls.quiet_of_same (C2.out _)))
    go_wp2_with fail;go_ret;exact⟨rfl,⟨BW.os,BW.tape,BW.output,BW.size,BW.block⟩⟩
   ·rw[←may_eq h];have e1:=eqB_false h;generalize absW n.data.toList=l at *;generalize gcdS l d.data.toList=g at *;clear h1 h2 hn hd hl h;have C1:=zh c1;have C2:=zh c2;have C3:=zh c3;have C4:=zh c4;clear c1 c2 c3 c4;go_enter Tryz.func21,Tryz.ntmps21;go_wp2_with fail;obtain⟨W,hW,BW,sW,k0,k1⟩:=box1 w (.string n) (.string d) 23;have hB:=zh (Nat.le_refl W.heap.size);rw[hW];clear hW;have b0:=Below.refl W.heap.size W
    first|(go_region_held3 (fun w'=>Below W.heap.size W w')
        (first|(exact b0.drew)|(with_reducible assumption)|(exact Below.alloc (by with_reducible assumption) (Nat.le_trans hB.out (Below.size (by with_reducible assumption))) _)|(exact put2 (by with_reducible assumption) (Nat.le_refl _) _ _)|(exact put2 (by with_reducible assumption) hB.out _ _)|(exact put2 (by with_reducible assumption) (Nat.le_trans hB.out (Below.size (by with_reducible assumption))) _ _))
        (first|(go_at_call 47;(with_reducible refine(held (W:=W) hB.out (calm' (C1.out _)) (by assumption)).mono ?_);rintro e w'' ⟨rfl,hb,hw⟩;(first|(have hz:=zc_made0 hb)|(have hz:=zc_made hb)|skip);(try have hz:=Zc.below (by assumption) hb);(try (have z0:=hz.c0;have z1:=hz.c1;have z2:=hz.f0;have z3:=hz.f1)))|(go_at_call 48;(with_reducible refine(held (W:=W) hB.out (calm' (C2.out _)) (by assumption)).mono ?_);rintro e w'' ⟨rfl,hb,hw⟩;(first|(have hz:=zc_made0 hb)|(have hz:=zc_made hb)|skip);(try have hz:=Zc.below (by assumption) hb);(try (have z0:=hz.c0;have z1:=hz.c1;have z2:=hz.f0;have z3:=hz.f1)))|(go_at_call 50;(with_reducible refine(held (W:=W) hB.out (C3.out _) (by assumption)).mono ?_);rintro e w'' ⟨rfl,hb,hw⟩;(first|(have hz:=zc_made0 hb)|(have hz:=zc_made hb)|skip);(try have hz:=Zc.below (by assumption) hb);(try (have z0:=hz.c0;have z1:=hz.c1;have z2:=hz.f0;have z3:=hz.f1)))|(go_at_call 49;(with_reducible refine(held (W:=W) hB.out (C4.out _) (by assumption)).mono ?_);rintro e w'' ⟨rfl,hb,hw⟩;(first|(have hz:=zc_made0 hb)|(have hz:=zc_made hb)|skip);(try have hz:=Zc.below (by assumption) hb);(try (have z0:=hz.c0;have z1:=hz.c1;have z2:=hz.f0;have z3:=hz.f1)))))|fail
    go_wp2_with fail;go_ret;exact⟨rfl,Below.more BW (by with_reducible assumption)⟩
theorem rmk_tail(N:Int)(D:Nat)(lN:Ltw N 95000)(lD:Lt D 95000)(h0:D≠0):∃A g a b c d:List UInt8,
  (∀w,Calls Tryz.prog 50 #[.string ⟨(wd N).toArray⟩] w fun e w'=>e=.returned (.string ⟨A.toArray⟩)∧w=w') ∧
  (∀w,Calls Tryz.prog 49 #[.string ⟨A.toArray⟩,.string ⟨(dig D).toArray⟩] w (GiveS w g)) ∧
  (∀w,Calls Tryz.prog 87 #[.string ⟨(wd N).toArray⟩,.string ⟨g.toArray⟩] w (GiveSSB w (a,c,true))) ∧
  (∀w,Calls Tryz.prog 87 #[.string ⟨(dig D).toArray⟩,.string ⟨g.toArray⟩] w (GiveSSB w (b,d,true)))∧rd (Rat.divInt N (D:Int))=(a,b):=by
 have hg:0<Nat.gcd N.natAbs D:=Nat.gcd_pos_of_pos_right _ (by omega);have lA:Lt N.natAbs 95001:=lN.toLt (by decide) (by decide) (by decide);have lg:Lt (Nat.gcd N.natAbs D) 95000:=lD.mono (Nat.gcd_le_right _ (by omega));have sN:(⟨(wd N).toArray⟩:ByteArray).size≤100000:=lN.size;have sA:(dig N.natAbs).length≤95001:=dig_length (by decide) lA.lt;have sD:(dig D).length≤95000:=dig_length (by decide) lD.lt;have sg:(dig (Nat.gcd N.natAbs D)).length≤95000:=dig_length (by decide) lg.lt;refine⟨dig N.natAbs,dig (Nat.gcd N.natAbs D),_,_,wd (N % ((Nat.gcd N.natAbs D:Nat):Int)),wd ((D:Int) % ((Nat.gcd N.natAbs D:Nat):Int)),fun w=>?_,fun w=>?_,fun w=>?_,fun w=>?_,rd_divInt h0⟩
 ·have c:=rwabs_any ⟨(wd N).toArray⟩ w (Nat.le_trans sN (by decide));have e:absW (⟨(wd N).toArray⟩:ByteArray).data.toList=dig N.natAbs:=by
   show absW (wd N)=_;unfold absW;rw[isW_wd,valW_wd];rfl
  rw[e]at c;exact c
 ·have c:=rgcd_any ⟨(dig N.natAbs).toArray⟩ ⟨(dig D).toArray⟩ w (by rw[size_of];exact Nat.le_trans sA (by decide)) (by rw[size_of];exact Nat.le_trans sD (by decide));have e:gcdS (⟨(dig N.natAbs).toArray⟩:ByteArray).data.toList (⟨(dig D).toArray⟩:ByteArray).data.toList=dig (Nat.gcd N.natAbs D):=by
   show gcdS (dig _) (dig _)=_;unfold gcdS;rw[isNat_dig,isNat_dig,valS_dig,valS_dig];rfl
  rw[e]at c;exact c
 ·have c:=rwdiv_any ⟨(wd N).toArray⟩ ⟨(dig (Nat.gcd N.natAbs D)).toArray⟩ w (Nat.le_trans sN (by decide)) (by rw[size_of];exact Nat.le_trans sg (by decide));have e:divW (⟨(wd N).toArray⟩:ByteArray).data.toList (⟨(dig (Nat.gcd N.natAbs D)).toArray⟩:ByteArray).data.toList=(wd (N / ((Nat.gcd N.natAbs D:Nat):Int)),wd (N % ((Nat.gcd N.natAbs D:Nat):Int)),true):=by
   show divW (wd _) (dig _)=_;unfold divW;rw[isW_wd,isW_dig,valW_wd,valW_dig,beq_false_of_ne (by omega)];rfl
  rw[e]at c;exact c
 ·have c:=rwdiv_any ⟨(dig D).toArray⟩ ⟨(dig (Nat.gcd N.natAbs D)).toArray⟩ w (by rw[size_of];exact Nat.le_trans sD (by decide)) (by rw[size_of];exact Nat.le_trans sg (by decide));have e:divW (⟨(dig D).toArray⟩:ByteArray).data.toList (⟨(dig (Nat.gcd N.natAbs D)).toArray⟩:ByteArray).data.toList=(dig (D / Nat.gcd N.natAbs D),wd ((D:Int) % ((Nat.gcd N.natAbs D:Nat):Int)),true):=by
   show divW (dig _) (dig _)=_;unfold divW;rw[isW_dig,isW_dig,valW_dig,valW_dig,beq_false_of_ne (by omega),← Int.natCast_ediv,wd_nat];rfl
  rw[e]at c;exact c
theorem rqmake_any(s t:ByteArray)(w:World)(hs:s.size≤90000)(ht:t.size≤90000) :
  Calls Tryz.prog 51 #[.string s,.string t] w (GiveRB w (makeR s.data.toList t.data.toList)):=by
 have c1:=fun w=>rwmay_any s w (by omega);have c2:=fun w=>rwmay_any t w (by omega);have c3:=fun w=>rwsign_any t w (by omega)
 cases h1:isW s.data.toList with
 | false =>
  rw[makeR_no (by rw[h1];rfl)];rw[h1]at c1;clear h1 c2 c3 hs ht;have C1:=zh c1;clear c1;go_enter Tryz.func51,Tryz.ntmps51;go_wp2_with fail;obtain⟨W,hW,BW,sW,r0,r1,r2,r3⟩:=box0z w (.string ⟨#[]⟩) (.string ⟨#[]⟩) 23;have hB:=zh (Nat.le_refl W.heap.size);rw[hW];clear hW;have b0:=Below.refl W.heap.size W;refine(C1.out _).mono ?_;rintro e w' ⟨rfl,rfl⟩;go_wp2_with fail;refine bodyPost_ret (v:=.tuple #[.agg #[.string ⟨#[]⟩,.string ⟨#[]⟩],.bool false]) (by simp[results,Tryz.results51,go_sem, *]) rfl ⟨rfl,?_⟩;exact put2 (Below.more BW b0) (Nat.le_refl _) _ _
 | true =>
  rw[h1]at c1
  cases h3:isW t.data.toList with
  | false =>
   rw[makeR_no (by rw[h1,h3];rfl)];rw[h3]at c2;clear h1 h3 c3 hs ht;have C1:=zh c1;have C2:=zh c2;clear c1 c2;go_enter Tryz.func51,Tryz.ntmps51;go_wp2_with fail;obtain⟨W,hW,BW,sW,r0,r1,r2,r3⟩:=box0z w (.string ⟨#[]⟩) (.string ⟨#[]⟩) 23;have hB:=zh (Nat.le_refl W.heap.size);rw[hW];clear hW;have b0:=Below.refl W.heap.size W;refine(C1.out _).mono ?_;rintro e w' ⟨rfl,rfl⟩;go_wp2_with fail;refine(C2.out _).mono ?_;rintro e w' ⟨rfl,rfl⟩;go_wp2_with fail;refine bodyPost_ret (v:=.tuple #[.agg #[.string ⟨#[]⟩,.string ⟨#[]⟩],.bool false]) (by simp[results,Tryz.results51,go_sem, *]) rfl ⟨rfl,?_⟩;exact put2 (Below.more BW b0) (Nat.le_refl _) _ _
  | true =>
   rw[h3]at c2;by_cases h4:t.data.toList=[48]
   ·have e1:=eqB_true h4;rw[makeR_no (by rw[h4,h1];rfl)];clear h1 h3 h4 c3 hs ht;have C1:=zh c1;have C2:=zh c2;clear c1 c2;go_enter Tryz.func51,Tryz.ntmps51;go_wp2_with fail;obtain⟨W,hW,BW,sW,r0,r1,r2,r3⟩:=box0z w (.string ⟨#[]⟩) (.string ⟨#[]⟩) 23;have hB:=zh (Nat.le_refl W.heap.size);rw[hW];clear hW;have b0:=Below.refl W.heap.size W;refine(C1.out _).mono ?_;rintro e w' ⟨rfl,rfl⟩;go_wp2_with fail;refine(C2.out _).mono ?_;rintro e w' ⟨rfl,rfl⟩;go_wp2_with fail;refine bodyPost_ret (v:=.tuple #[.agg #[.string ⟨#[]⟩,.string ⟨#[]⟩],.bool false]) (by simp[results,Tryz.results51,go_sem, *]) rfl ⟨rfl,?_⟩;exact put2 (Below.more BW b0) (Nat.le_refl _) _ _
   ·have h5:valW t.data.toList≠0:=fun e=>h4 (by rw[←wd_valW h3,e];exact wd_0);rw[makeR_yes h1 h3 h5];have e1:=eqB_false h4;have lN:=Ltw.of_text h1 hs (by decide);have lD:=Ltw.of_text h3 ht (by decide);have es:=str_wd h1;have et:=str_wd h3;have h6:sgnW t.data.toList=if valW t.data.toList<0 then -1 else if valW t.data.toList=0 then 0 else 1:=by unfold sgnW;rw[h3];rfl
    rw[h6]at c3;clear h6 h4;generalize valW s.data.toList=N at *;generalize valW t.data.toList=E at *;clear h1 h3 hs ht e1;subst es;subst et;have e1:=wd_neB h5;by_cases h7:E<0
    ·obtain⟨D,hD⟩:∃D:Nat,-E=(D:Int):=⟨E.natAbs,by omega⟩;have hE:E=-(D:Int):=by omega
     subst hE;rw[if_pos h7]at c3;have lN':Ltw (-N) 95000:=⟨Nat.le_trans (lN.neg (by decide) (by decide)).len (by decide),by decide⟩;have lD':Lt D 95000:=by have h:=lD.toLt (j:=95000) (by decide) (by decide) (by decide);rwa[Int.natAbs_neg,Int.natAbs_natCast]at h
     obtain⟨A,g,a,b,c,d,cA,cG,cD,cE,er⟩:=rmk_tail (-N) D lN' lD' (by omega);have e2:Rat.divInt N (-(D:Int))=Rat.divInt (-N) (D:Int):=by rw[←divInt_swap N (-(D:Int)),Int.neg_neg]
     rw[e2,er];have c4:∀w,Calls Tryz.prog 86 #[.string ⟨(wd N).toArray⟩] w fun e w'=>e=.returned (.string ⟨(wd (-N)).toArray⟩)∧w=w':=fun w=>by
      have c:=rwneg_any ⟨(wd N).toArray⟩ w (Nat.le_trans lN.size (by decide));have e:negW (⟨(wd N).toArray⟩:ByteArray).data.toList=wd (-N):=by
       show negW (wd N)=_;unfold negW;rw[isW_wd,valW_wd];rfl
      rw[e]at c;exact c
     have c5:∀w,Calls Tryz.prog 86 #[.string ⟨(wd (-(D:Int))).toArray⟩] w fun e w'=>e=.returned (.string ⟨(dig D).toArray⟩)∧w=w':=fun w=>by
      have c:=rwneg_any ⟨(wd (-(D:Int))).toArray⟩ w (Nat.le_trans lD.size (by decide));have e:negW (⟨(wd (-(D:Int))).toArray⟩:ByteArray).data.toList=dig D:=by
       show negW (wd (-(D:Int)))=_;unfold negW;rw[isW_wd,valW_wd,Int.neg_neg,wd_nat];rfl
      rw[e]at c;exact c
     clear er e2 hD h5 h7 lN lD lN' lD';generalize wd (-(D:Int))=tx at *;generalize wd N=sx at *;generalize wd (-N)=sy at *;generalize dig D=ty at *;have C1:=zh c1;have C2:=zh c2;have C3:=zh c3;have C4:=zh c4;have C5:=zh c5;have CA:=zh cA;have CG:=zh cG;have CD:=zh cD;have CE:=zh cE;clear c1 c2 c3 c4 c5 cA cG cD cE;go_enter Tryz.func51,Tryz.ntmps51;go_wp2_with fail;obtain⟨W,hW,BW,sW,r0,r1,r2,r3⟩:=box0z w (.string ⟨#[]⟩) (.string ⟨#[]⟩) 23;have hB:=zh (Nat.le_refl W.heap.size);rw[hW];clear hW;have b0:=Below.refl W.heap.size W;refine(C1.out _).mono ?_;rintro e w' ⟨rfl,rfl⟩;go_wp2_with fail;refine(C2.out _).mono ?_;rintro e w' ⟨rfl,rfl⟩;go_wp2_with fail;refine(C3.out _).mono ?_;rintro e w' ⟨rfl,rfl⟩;go_wp2_with fail;refine(C4.out _).mono ?_;rintro e w' ⟨rfl,rfl⟩;go_wp2_with fail;refine(C5.out _).mono ?_;rintro e w' ⟨rfl,rfl⟩;go_wp2_with fail;refine(CA.out _).mono ?_;rintro e w' ⟨rfl,rfl⟩;go_wp2_with fail;refine(CG.out _).mono ?_;rintro e w1 ⟨rfl,b⟩;have b1:=Below.more b0 b;clear b;go_wp2_with fail;refine(CD.out _).mono ?_;rintro e w2 ⟨rfl,b⟩;have b2:=Below.more b1 b;clear b;go_wp2_with fail;refine(CE.out _).mono ?_;rintro e w3 ⟨rfl,b⟩;have b3:=Below.more b2 b;clear b;go_wp2_with fail;refine bodyPost_ret (v:=.tuple #[.agg #[.string ⟨a.toArray⟩,.string ⟨b.toArray⟩],.bool true]) (by simp[results,Tryz.results51,go_sem, *]) rfl ⟨rfl,?_⟩;exact put2 (Below.more BW b3) (Nat.le_refl _) _ _
    ·obtain⟨D,hD⟩:∃D:Nat,E=(D:Int):=⟨E.natAbs,by omega⟩;subst hD;rw[if_neg h7,if_neg h5]at c3;have lN':Ltw N 95000:=⟨Nat.le_trans lN.len (by decide),by decide⟩;have lD':Lt D 95000:=by have h:=lD.toLt (j:=95000) (by decide) (by decide) (by decide);rwa[Int.natAbs_natCast]at h
     obtain⟨A,g,a,b,c,d,cA,cG,cD,cE,er⟩:=rmk_tail N D lN' lD' (by omega);rw[er];rw[wd_nat D]at *;clear er h5 h7 lN lD lN' lD';generalize wd N=sx at *;generalize dig D=ty at *;have C1:=zh c1;have C2:=zh c2;have C3:=zh c3;have CA:=zh cA;have CG:=zh cG;have CD:=zh cD;have CE:=zh cE;clear c1 c2 c3 cA cG cD cE;go_enter Tryz.func51,Tryz.ntmps51;go_wp2_with fail;obtain⟨W,hW,BW,sW,r0,r1,r2,r3⟩:=box0z w (.string ⟨#[]⟩) (.string ⟨#[]⟩) 23;have hB:=zh (Nat.le_refl W.heap.size);rw[hW];clear hW;have b0:=Below.refl W.heap.size W;refine(C1.out _).mono ?_;rintro e w' ⟨rfl,rfl⟩;go_wp2_with fail;refine(C2.out _).mono ?_;rintro e w' ⟨rfl,rfl⟩;go_wp2_with fail;refine(C3.out _).mono ?_;rintro e w' ⟨rfl,rfl⟩;go_wp2_with fail;refine(CA.out _).mono ?_;rintro e w' ⟨rfl,rfl⟩;go_wp2_with fail;refine(CG.out _).mono ?_;rintro e w1 ⟨rfl,b⟩;have b1:=Below.more b0 b;clear b;go_wp2_with fail;refine(CD.out _).mono ?_;rintro e w2 ⟨rfl,b⟩;have b2:=Below.more b1 b;clear b;go_wp2_with fail;refine(CE.out _).mono ?_;rintro e w3 ⟨rfl,b⟩;have b3:=Below.more b2 b;clear b;go_wp2_with fail;refine bodyPost_ret (v:=.tuple #[.agg #[.string ⟨a.toArray⟩,.string ⟨b.toArray⟩],.bool true]) (by simp[results,Tryz.results51,go_sem, *]) rfl ⟨rfl,?_⟩;exact put2 (Below.more BW b3) (Nat.le_refl _) _ _
theorem rqsign_any(n d:ByteArray)(w:World)(hn:n.size≤100000)(hd:d.size≤100000) :
  Calls Tryz.prog 25 #[.agg #[.string n,.string d]] w (GiveI w (sgnR (n.data.toList,d.data.toList))):=by
 have cm:=fun w=>rqmay_any n d w hn hd;have cs:=fun w=>rwsign_any n w (by omega)
 cases h:isR (n.data.toList,d.data.toList) with
 | false =>
  rw[h]at cm;rw[sgn_no h];clear h cs hn hd;have CM:=zh cm;clear cm;go_enter Tryz.func25,Tryz.ntmps25;go_wp2_with fail;obtain⟨W,hW,BW,sW,k0,k1⟩:=box1 w (.string n) (.string d) 23;have hB:=zh (Nat.le_refl W.heap.size);rw[hW];clear hW;have b0:=Below.refl W.heap.size W;refine(CM.out _).mono ?_;rintro e w1 ⟨rfl,b⟩;have b1:=Below.more b0 b;clear b;go_wp2_with fail;go_ret;exact⟨rfl,Below.more BW b1⟩
 | true =>
  rw[h]at cm;have e:sgnW n.data.toList=sgnR (n.data.toList,d.data.toList):=sgn_is h;rw[e]at cs;generalize sgnR (n.data.toList,d.data.toList)=x at *;clear h e hn hd;have CM:=zh cm;have CS:=zh cs;clear cm cs;go_enter Tryz.func25,Tryz.ntmps25;go_wp2_with fail;obtain⟨W,hW,BW,sW,k0,k1⟩:=box1 w (.string n) (.string d) 23;have hB:=zh (Nat.le_refl W.heap.size);rw[hW];clear hW;have b0:=Below.refl W.heap.size W;refine(CM.out _).mono ?_;rintro e w1 ⟨rfl,b⟩;have b1:=Below.more b0 b;clear b;go_wp2_with fail;refine(CS.out _).mono ?_;rintro e w' ⟨rfl,rfl⟩;go_wp2_with fail;go_ret;exact⟨rfl,Below.more BW b1⟩
end Go.Proofs.YthgopcnagecbaaaGreatDoor
