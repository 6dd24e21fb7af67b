/- Own work. -/
import Derived.Test.YthgopcnagecbaaaGreatDoorRatNum2
set_option maxHeartbeats 2000000
set_option maxRecDepth 100000
namespace Go.Proofs.YthgopcnagecbaaaGreatDoor
open Go.RowKit
def GiveR(w:World)(p:List UInt8×List UInt8)(e:Ending)(w':World):Prop:=e=.returned (.agg #[.string ⟨p.1.toArray⟩,.string ⟨p.2.toArray⟩])∧Below w.heap.size w w'
def GiveRB(w:World)(p:(List UInt8×List UInt8)×Bool)(e:Ending)(w':World):Prop:=e=.returned (.tuple #[.agg #[.string ⟨p.1.1.toArray⟩,.string ⟨p.1.2.toArray⟩],.bool p.2])∧Below w.heap.size w w'
def GiveSS(w:World)(l:List UInt8×List UInt8)(e:Ending)(w':World):Prop:=e=.returned (.tuple #[.string ⟨l.1.toArray⟩,.string ⟨l.2.toArray⟩])∧Below w.heap.size w w'
def GiveI(w:World)(i:Int)(e:Ending)(w':World):Prop:=e=.returned (.int .i64 i)∧Below w.heap.size w w'
theorem calm{P:Program}{f:FuncId}{args:Array Value}{w:World}{v:Value}(c:Calls P f args w fun e w'=>e=.returned v∧w=w'):Calls P f args w fun e w'=>e=.returned v∧Below w.heap.size w w' :=
 c.mono fun _ _ ⟨he,hw⟩=>⟨he,hw▸Below.refl _ _⟩
theorem cell_new(w:World)(x:Obj)(cs:Array Value)(t:TypeId)(h:x=.cells cs t)(j:Nat):(w.alloc x).cell? ⟨w.heap.size,j,none⟩=cs[j]?:=by
 subst h;exact cell_of_row _ _ _ _ _ _ (World.alloc_heap_new w _)
theorem Below.step{w v:World}(x:Obj)(h:Below (w.alloc x).heap.size (w.alloc x) v):Below w.heap.size w v:=Below.more ((Below.refl _ w).alloc (Nat.le_refl _) _) h
structure Zc(b:Nat)(x y:Value)(v:World):Prop where
 c0:v.cell? ⟨b,0,none⟩=some x
 c1:v.cell? ⟨b,1,none⟩=some y
 f0:v.frozen? ⟨b,0,none⟩=false
 f1:v.frozen? ⟨b,1,none⟩=false
 lt:b<v.heap.size
theorem Zc.below{b:Nat}{x y:Value}{v v':World}(h:Zc b x y v)(hb:Below v.heap.size v v'):Zc b x y v' :=
 ⟨(hb.cell (p:=⟨b,0,none⟩) h.lt).trans h.c0,(hb.cell (p:=⟨b,1,none⟩) h.lt).trans h.c1,(hb.frozen (p:=⟨b,0,none⟩) h.lt).trans h.f0,(hb.frozen (p:=⟨b,1,none⟩) h.lt).trans h.f1,Nat.lt_of_lt_of_le h.lt hb.size⟩
theorem zc_new(w:World)(x y:Value)(t:TypeId):Zc w.heap.size x y (w.alloc (.cells #[x,y] t)) :=
 ⟨cell_new _ _ _ _ rfl 0,cell_new _ _ _ _ rfl 1,by rw[frozen?_alloc_cells];simp[World.frozen?],by rw[frozen?_alloc_cells];simp[World.frozen?],by simp⟩
theorem zc_made{u v:World}{x y:Value}{t:TypeId}(hb:Below (u.alloc (.cells #[x,y] t)).heap.size (u.alloc (.cells #[x,y] t)) v):Zc u.heap.size x y v:=(zc_new u x y t).below hb
theorem zc_made0{u v:World}{x y:Value}{t:TypeId}(hb:Below (u.drew.alloc (.cells #[x,y] t)).heap.size (u.drew.alloc (.cells #[x,y] t)) v):Zc u.heap.size x y v:=zc_made (u:=u.drew) hb
theorem box1(w:World)(a b:Value)(t:TypeId):∃W,w.alloc (.cells #[a,b] t)=W∧Below w.heap.size w W∧w.heap.size+1=W.heap.size ∧
  (∀v,Below W.heap.size W v→v.cell? ⟨w.heap.size,0,none⟩=some a)∧(∀v,Below W.heap.size W v→v.cell? ⟨w.heap.size,1,none⟩=some b) :=
 ⟨_,rfl,Below.step _ (Below.refl _ _),by simp,fun _ h=>(zc_made h).c0,fun _ h=>(zc_made h).c1⟩
theorem box2(w:World)(a b c d:Value)(t u:TypeId):∃W,(w.alloc (.cells #[a,b] t)).alloc (.cells #[c,d] u)=W∧Below w.heap.size w W∧w.heap.size+1+1=W.heap.size ∧
  (∀v,Below W.heap.size W v→v.cell? ⟨w.heap.size,0,none⟩=some a)∧(∀v,Below W.heap.size W v→v.cell? ⟨w.heap.size,1,none⟩=some b) ∧
  (∀v,Below W.heap.size W v→v.cell? ⟨w.heap.size+1,0,none⟩=some c)∧(∀v,Below W.heap.size W v→v.cell? ⟨w.heap.size+1,1,none⟩=some d):=by
 obtain⟨V,hV,B,s,c0,c1⟩:=box1 w a b t;rw[hV];have hz:∀v,Below (V.alloc (.cells #[c,d] u)).heap.size (V.alloc (.cells #[c,d] u)) v→Zc (w.heap.size+1) c d v:=fun v h=>by rw[s];exact zc_made h
 exact⟨_,rfl,Below.more B (Below.step _ (Below.refl _ _)),by rw[s];simp,fun v h=>c0 v (Below.step _ h),fun v h=>c1 v (Below.step _ h),fun v h=>(hz v h).c0,fun v h=>(hz v h).c1⟩
theorem box0z(w:World)(x y:Value)(z:TypeId):∃W,w.alloc (.cells #[x,y] z)=W∧Below w.heap.size w W∧w.heap.size+1=W.heap.size ∧
  (∀v,Below W.heap.size W v→v.cell? ⟨w.heap.size,0,none⟩=some x)∧(∀v,Below W.heap.size W v→v.cell? ⟨w.heap.size,1,none⟩=some y) ∧
  (∀v,Below W.heap.size W v→v.frozen? ⟨w.heap.size,0,none⟩=false)∧(∀v,Below W.heap.size W v→v.frozen? ⟨w.heap.size,1,none⟩=false) :=
 ⟨_,rfl,Below.step _ (Below.refl _ _),by simp,fun _ h=>(zc_made h).c0,fun _ h=>(zc_made h).c1,fun _ h=>(zc_made h).f0,fun _ h=>(zc_made h).f1⟩
theorem box2z(w:World)(a b c d x y:Value)(t u z:TypeId):∃W,((w.alloc (.cells #[a,b] t)).alloc (.cells #[c,d] u)).alloc (.cells #[x,y] z)=W∧Below w.heap.size w W∧w.heap.size+1+1+1=W.heap.size ∧
  (∀v,Below W.heap.size W v→v.cell? ⟨w.heap.size,0,none⟩=some a)∧(∀v,Below W.heap.size W v→v.cell? ⟨w.heap.size,1,none⟩=some b) ∧
  (∀v,Below W.heap.size W v→v.cell? ⟨w.heap.size+1,0,none⟩=some c)∧(∀v,Below W.heap.size W v→v.cell? ⟨w.heap.size+1,1,none⟩=some d) ∧
  (∀v,Below W.heap.size W v→v.cell? ⟨w.heap.size+1+1,0,none⟩=some x)∧(∀v,Below W.heap.size W v→v.cell? ⟨w.heap.size+1+1,1,none⟩=some y) ∧
  (∀v,Below W.heap.size W v→v.frozen? ⟨w.heap.size+1+1,0,none⟩=false)∧(∀v,Below W.heap.size W v→v.frozen? ⟨w.heap.size+1+1,1,none⟩=false):=by
 obtain⟨V,hV,B,s,c0,c1,c2,c3⟩:=box2 w a b c d t u;rw[hV];have hz:∀v,Below (V.alloc (.cells #[x,y] z)).heap.size (V.alloc (.cells #[x,y] z)) v→Zc (w.heap.size+1+1) x y v:=fun v h=>by rw[s];exact zc_made h
 exact⟨_,rfl,Below.more B (Below.step _ (Below.refl _ _)),by rw[s];simp,fun v h=>c0 v (Below.step _ h),fun v h=>c1 v (Below.step _ h),fun v h=>c2 v (Below.step _ h),fun v h=>c3 v (Below.step _ h),fun v h=>(hz v h).c0,fun v h=>(hz v h).c1,fun v h=>(hz v h).f0,fun v h=>(hz v h).f1⟩
theorem held{P:Program}{f:FuncId}{args:Array Value}{w W:World}{v:Value}{B:Nat}(hB:B≤W.heap.size)(c:Calls P f args w fun e w'=>e=.returned v∧Below w.heap.size w w')(h:Below B W w) :
  Calls P f args w fun e w'=>e=.returned v∧Below w.heap.size w w'∧Below B W w':=c.mono fun _ _ ⟨he,hb⟩=>⟨he,hb,h.trans (hb.mono (Nat.le_trans hB h.size))⟩
theorem put2{B b:Nat}{a w:World}(h:Below B a w)(hb:B≤b)(x y:Value):Below B a ((w.setCell ⟨b,0,none⟩ x).setCell ⟨b,1,none⟩ y):=Below.setCell (Below.setCell h hb _) hb _
theorem qmay_any(n d:ByteArray)(w:World)(hn:n.size≤100000)(hd:d.size≤100000) :
  Calls Tryz.prog 44 #[.agg #[.string n,.string d]] w (GiveB w (isR (n.data.toList,d.data.toList))):=by
 have c1:∀w,Calls Tryz.prog 82 #[.string n] w (GiveS w (absW n.data.toList)):=fun w=>calm (wabs_any n w (by omega));have hl:=absW_len n.data.toList;have c2:∀w,Calls Tryz.prog 81 #[.string ⟨(absW n.data.toList).toArray⟩,.string d] w (GiveS w (gcdS (absW n.data.toList) d.data.toList)):=fun w =>
  gcd_any ⟨(absW n.data.toList).toArray⟩ d w (by show (absW n.data.toList).toArray.size≤_;rw[List.size_toArray];exact Nat.le_trans hl (Nat.le_trans hn (by decide))) (by omega)
 by_cases h:d.data.toList=[48]
 ·rw[h,may_48];have e1:=eqB_true h;clear c1 c2 hn hd hl h;go_enter Tryz.func44,Tryz.ntmps44;go_wp2_with fail;obtain⟨W,hW,BW,sW,k0,k1⟩:=box1 w (.string n) (.string d) 23;have hB:=zh (Nat.le_refl W.heap.size);rw[hW];clear hW;have b0:=Below.refl W.heap.size W;have k1':=k1 W (Below.refl _ _)
  go_quiet (fail)
  go_wp2_with fail;go_ret;exact⟨rfl,⟨BW.os,BW.tape,BW.output,BW.size,BW.block⟩⟩
 ·rw[←may_eq h];have e1:=eqB_false h;generalize absW n.data.toList=l at *;generalize gcdS l d.data.toList=g at *;clear hn hd hl h;have C1:=zh c1;have C2:=zh c2;clear c1 c2;go_enter Tryz.func44,Tryz.ntmps44;go_wp2_with fail;obtain⟨W,hW,BW,sW,k0,k1⟩:=box1 w (.string n) (.string d) 23;have hB:=zh (Nat.le_refl W.heap.size);rw[hW];clear hW;have b0:=Below.refl W.heap.size W
  go_region_held3 (fun w'=>Below W.heap.size W w')
   (first|(exact(Below.refl _ _).drew)|(with_reducible assumption)|(exact Below.alloc (by with_reducible assumption) (Nat.le_trans hB.out (Below.size (by with_reducible assumption))) _)|(exact put2 (by with_reducible assumption) (Nat.le_refl _) _ _)|(exact put2 (by with_reducible assumption) hB.out _ _)|(exact put2 (by with_reducible assumption) (Nat.le_trans hB.out (Below.size (by with_reducible assumption))) _ _))
   (first|(go_at_call 82;(with_reducible refine(held (W:=W) hB.out (C1.out _) (by assumption)).mono ?_);rintro e w'' ⟨rfl,hb,hw⟩;(first|(have hz:=zc_made0 hb)|(have hz:=zc_made hb)|skip);(try have hz:=Zc.below (by assumption) hb);(try (have z0:=hz.c0;have z1:=hz.c1;have z2:=hz.f0;have z3:=hz.f1)))|(go_at_call 81;(with_reducible refine(held (W:=W) hB.out (C2.out _) (by assumption)).mono ?_);rintro e w'' ⟨rfl,hb,hw⟩;(first|(have hz:=zc_made0 hb)|(have hz:=zc_made hb)|skip);(try have hz:=Zc.below (by assumption) hb);(try (have z0:=hz.c0;have z1:=hz.c1;have z2:=hz.f0;have z3:=hz.f1))))
  go_wp2_with fail;go_ret;exact⟨rfl,Below.more BW (by assumption)⟩
theorem Ltw.toLt{a:Int}{k j:Nat}(h:Ltw a k)(hk:k≤j)(h0:0<j)(hj:j≤900000):Lt a.natAbs j:=⟨Nat.lt_of_lt_of_le h.abs (Nat.pow_le_pow_right (by decide) hk),h0,hj⟩
theorem mk_tail(N:Int)(D:Nat)(lN:Ltw N 95000)(lD:Lt D 95000)(h0:D≠0):∃A g a b c d:List UInt8,
  (∀w,Calls Tryz.prog 82 #[.string ⟨(wd N).toArray⟩] w fun e w'=>e=.returned (.string ⟨A.toArray⟩)∧w=w') ∧
  (∀w,Calls Tryz.prog 81 #[.string ⟨A.toArray⟩,.string ⟨(dig D).toArray⟩] w (GiveS w g)) ∧
  (∀w,Calls Tryz.prog 101 #[.string ⟨(wd N).toArray⟩,.string ⟨g.toArray⟩] w (GiveSSB w (a,c,true))) ∧
  (∀w,Calls Tryz.prog 102 #[.string ⟨(dig D).toArray⟩,.string ⟨g.toArray⟩] w (GiveSSB w (b,d,true)))∧rd (Rat.divInt N (D:Int))=(a,b):=by
 have hg:0<Nat.gcd N.natAbs D:=Nat.gcd_pos_of_pos_right _ (by omega);have lA:Lt N.natAbs 95001:=lN.toLt (by decide) (by decide) (by decide);have lg:Lt (Nat.gcd N.natAbs D) 95000:=lD.mono (Nat.gcd_le_right _ (by omega));have lgw:Ltw ((Nat.gcd N.natAbs D:Nat):Int) 95001:=Ltw.mk' (by rw[Int.natAbs_natCast];exact lg.lt) (by decide) (by decide);refine⟨dig N.natAbs,dig (Nat.gcd N.natAbs D),_,_,wd (N % ((Nat.gcd N.natAbs D:Nat):Int)),dig (D % Nat.gcd N.natAbs D),fun w=>?_,fun w=>nGcd lA lD rfl w,fun w=>?_,fun w=>nDiv lD lg hg rfl rfl w,rd_divInt h0⟩
 ·have c:=zAbs lN rfl w;rw[wd_nat]at c;exact c
 ·have c:=zDiv lN lgw (by omega) rfl rfl w;rw[wd_nat (Nat.gcd N.natAbs D)]at c;exact c
theorem qmake_any(s t:ByteArray)(w:World)(hs:s.size≤90000)(ht:t.size≤90000) :
  Calls Tryz.prog 69 #[.string s,.string t] w (GiveRB w (makeR s.data.toList t.data.toList)):=by
 have c1:=fun w=>wmay_any s w (by omega);have c2:=fun w=>wsign_any t w (by omega)
 cases h1:isW s.data.toList with
 | false =>
  rw[makeR_no (by rw[h1];rfl)];rw[h1]at c1;clear h1 c2 hs ht;have C1:=zh c1;clear c1;go_enter Tryz.func69,Tryz.ntmps69;go_wp2_with fail;obtain⟨W,hW,BW,sW,r0,r1,r2,r3⟩:=box0z w (.string ⟨#[]⟩) (.string ⟨#[]⟩) 23;have hB:=zh (Nat.le_refl W.heap.size);rw[hW];clear hW;have b0:=Below.refl W.heap.size W;refine(C1.out _).mono ?_;rintro e w' ⟨rfl,rfl⟩;go_wp2_with fail;refine bodyPost_ret (v:=.tuple #[.agg #[.string ⟨#[]⟩,.string ⟨#[]⟩],.bool false]) (by simp[results,Tryz.results69,go_sem, *]) rfl ⟨rfl,?_⟩;exact put2 (Below.more BW b0) (Nat.le_refl _) _ _
 | true =>
  rw[h1]at c1;by_cases h2:sgnW t.data.toList=0
  ·rw[makeR_no (by rw[h1];exact sgnW_zero.1 h2)];rw[h2]at c2;clear h1 h2 hs ht;have C1:=zh c1;have C2:=zh c2;clear c1 c2;go_enter Tryz.func69,Tryz.ntmps69;go_wp2_with fail;obtain⟨W,hW,BW,sW,r0,r1,r2,r3⟩:=box0z w (.string ⟨#[]⟩) (.string ⟨#[]⟩) 23;have hB:=zh (Nat.le_refl W.heap.size);rw[hW];clear hW;have b0:=Below.refl W.heap.size W;refine(C1.out _).mono ?_;rintro e w' ⟨rfl,rfl⟩;go_wp2_with fail;refine(C2.out _).mono ?_;rintro e w' ⟨rfl,rfl⟩;go_wp2_with fail;refine bodyPost_ret (v:=.tuple #[.agg #[.string ⟨#[]⟩,.string ⟨#[]⟩],.bool false]) (by simp[results,Tryz.results69,go_sem, *]) rfl ⟨rfl,?_⟩;exact put2 (Below.more BW b0) (Nat.le_refl _) _ _
  ·have h3:(isW t.data.toList&&!(valW t.data.toList==0))=true:=by
    cases h:(isW t.data.toList&&!(valW t.data.toList==0)) with
    | true=>rfl
    | false=>exact absurd (sgnW_zero.2 h) h2
   rw[Bool.and_eq_true]at h3;obtain⟨h3,h4⟩:=h3;have h5:valW t.data.toList≠0:=by simpa using h4
   rw[makeR_yes h1 h3 h5];have lN:=Ltw.of_text h1 hs (by decide);have lD:=Ltw.of_text h3 ht (by decide);have es:=str_wd h1;have et:=str_wd h3;have h6:sgnW t.data.toList=if valW t.data.toList<0 then -1 else if valW t.data.toList=0 then 0 else 1:=by unfold sgnW;rw[h3];rfl
   rw[h6]at c2;clear h2 h6 h4;generalize valW s.data.toList=N at *;generalize valW t.data.toList=E at *;clear h1 h3 hs ht;subst es;subst et;by_cases h7:E<0
   ·obtain⟨D,hD⟩:∃D:Nat,-E=(D:Int):=⟨E.natAbs,by omega⟩;have hE:E=-(D:Int):=by omega
    subst hE;rw[if_pos h7]at c2;have lN':Ltw (-N) 95000:=⟨Nat.le_trans (lN.neg (by decide) (by decide)).len (by decide),by decide⟩;have lD':Lt D 95000:=by have h:=lD.toLt (j:=95000) (by decide) (by decide) (by decide);rwa[Int.natAbs_neg,Int.natAbs_natCast]at h
    obtain⟨A,g,a,b,c,d,cA,cG,cD,cE,er⟩:=mk_tail (-N) D lN' lD' (by omega);have e1:Rat.divInt N (-(D:Int))=Rat.divInt (-N) (D:Int):=by rw[←divInt_swap N (-(D:Int)),Int.neg_neg]
    rw[e1,er];have c3:=fun w=>zNeg lN (x:=-N) rfl w;have c4:∀w,Calls Tryz.prog 100 #[.string ⟨(wd (-(D:Int))).toArray⟩] w fun e w'=>e=.returned (.string ⟨(dig D).toArray⟩)∧w=w':=fun w=>by
     have c:=zNeg lD (Int.neg_neg (D:Int)) w;rw[wd_nat D]at c;exact c
    clear er e1 hD h5 h7 lN lD lN' lD';generalize wd (-(D:Int))=tx at *;generalize wd N=sx at *;generalize wd (-N)=sy at *;generalize dig D=ty at *;have C1:=zh c1;have C2:=zh c2;have C3:=zh c3;have C4:=zh c4;have CA:=zh cA;have CG:=zh cG;have CD:=zh cD;have CE:=zh cE;clear c1 c2 c3 c4 cA cG cD cE;go_enter Tryz.func69,Tryz.ntmps69;go_wp2_with fail;obtain⟨W,hW,BW,sW,r0,r1,r2,r3⟩:=box0z w (.string ⟨#[]⟩) (.string ⟨#[]⟩) 23;have hB:=zh (Nat.le_refl W.heap.size);rw[hW];clear hW;have b0:=Below.refl W.heap.size W;refine(C1.out _).mono ?_;rintro e w' ⟨rfl,rfl⟩;go_wp2_with fail;refine(C2.out _).mono ?_;rintro e w' ⟨rfl,rfl⟩;go_wp2_with fail;refine(C2.out _).mono ?_;rintro e w' ⟨rfl,rfl⟩;go_wp2_with fail;refine(C3.out _).mono ?_;rintro e w' ⟨rfl,rfl⟩;go_wp2_with fail;refine(C4.out _).mono ?_;rintro e w' ⟨rfl,rfl⟩;go_wp2_with fail;refine(CA.out _).mono ?_;rintro e w' ⟨rfl,rfl⟩;go_wp2_with fail;refine(CG.out _).mono ?_;rintro e w1 ⟨rfl,b⟩;have b1:=Below.more b0 b;clear b;go_wp2_with fail;refine(CD.out _).mono ?_;rintro e w2 ⟨rfl,b⟩;have b2:=Below.more b1 b;clear b;go_wp2_with fail;refine(CE.out _).mono ?_;rintro e w3 ⟨rfl,b⟩;have b3:=Below.more b2 b;clear b;go_wp2_with fail;refine bodyPost_ret (v:=.tuple #[.agg #[.string ⟨a.toArray⟩,.string ⟨b.toArray⟩],.bool true]) (by simp[results,Tryz.results69,go_sem, *]) rfl ⟨rfl,?_⟩;exact put2 (Below.more BW b3) (Nat.le_refl _) _ _
   ·obtain⟨D,hD⟩:∃D:Nat,E=(D:Int):=⟨E.natAbs,by omega⟩;subst hD;rw[if_neg h7,if_neg h5]at c2;have lN':Ltw N 95000:=⟨Nat.le_trans lN.len (by decide),by decide⟩;have lD':Lt D 95000:=by have h:=lD.toLt (j:=95000) (by decide) (by decide) (by decide);rwa[Int.natAbs_natCast]at h
    obtain⟨A,g,a,b,c,d,cA,cG,cD,cE,er⟩:=mk_tail N D lN' lD' (by omega);rw[er];rw[wd_nat D]at *;clear er h5 h7 lN lD lN' lD';generalize wd N=sx at *;generalize dig D=ty at *;have C1:=zh c1;have C2:=zh c2;have CA:=zh cA;have CG:=zh cG;have CD:=zh cD;have CE:=zh cE;clear c1 c2 cA cG cD cE;go_enter Tryz.func69,Tryz.ntmps69;go_wp2_with fail;obtain⟨W,hW,BW,sW,r0,r1,r2,r3⟩:=box0z w (.string ⟨#[]⟩) (.string ⟨#[]⟩) 23;have hB:=zh (Nat.le_refl W.heap.size);rw[hW];clear hW;have b0:=Below.refl W.heap.size W;refine(C1.out _).mono ?_;rintro e w' ⟨rfl,rfl⟩;go_wp2_with fail;refine(C2.out _).mono ?_;rintro e w' ⟨rfl,rfl⟩;go_wp2_with fail;refine(C2.out _).mono ?_;rintro e w' ⟨rfl,rfl⟩;go_wp2_with fail;refine(CA.out _).mono ?_;rintro e w' ⟨rfl,rfl⟩;go_wp2_with fail;refine(CG.out _).mono ?_;rintro e w1 ⟨rfl,b⟩;have b1:=Below.more b0 b;clear b;go_wp2_with fail;refine(CD.out _).mono ?_;rintro e w2 ⟨rfl,b⟩;have b2:=Below.more b1 b;clear b;go_wp2_with fail;refine(CE.out _).mono ?_;rintro e w3 ⟨rfl,b⟩;have b3:=Below.more b2 b;clear b;go_wp2_with fail;refine bodyPost_ret (v:=.tuple #[.agg #[.string ⟨a.toArray⟩,.string ⟨b.toArray⟩],.bool true]) (by simp[results,Tryz.results69,go_sem, *]) rfl ⟨rfl,?_⟩;exact put2 (Below.more BW b3) (Nat.le_refl _) _ _
theorem qof_any(n:Int)(w:World)(h0:-9223372036854775808≤n)(h1:n≤9223372036854775807)(ht:GoodT w) :
  Calls Tryz.prog 39 #[.int .i64 n] w (GiveR w (wd n,[49])):=by
 have cO:=fun w=>wof_any n w h0 h1;generalize wd n=l at *;clear h0 h1;have CO:=zh cO;have HT:=zh ht;clear cO ht;go_enter Tryz.func39,Tryz.ntmps39;go_wp2_with fail;obtain⟨W,hW,BW,sW,r0,r1,r2,r3⟩:=box0z w (.string ⟨#[]⟩) (.string ⟨#[]⟩) 23;have hB:=zh (Nat.le_refl W.heap.size);rw[hW];clear hW;have b0:=Below.refl W.heap.size W;refine(CO.out _ (HT.out.below BW)).mono ?_;rintro e w1 ⟨rfl,b⟩;have b1:=Below.more b0 b;clear b;go_wp2_with fail;refine bodyPost_ret (v:=.agg #[.string ⟨l.toArray⟩,.string ⟨[49].toArray⟩]) (by simp[results,Tryz.results39,go_sem, *]) rfl ⟨rfl,?_⟩;exact put2 (Below.more BW b1) (Nat.le_refl _) _ _
theorem sgn_is{p:List UInt8×List UInt8}(h:isR p=true):sgnW p.1=sgnR p:=by
 unfold sgnW sgnR sgnQ;rw[h,isR_isW h,valR_num h]
 try rfl
theorem sgn_no{p:List UInt8×List UInt8}(h:isR p=false):sgnR p=0:=by unfold sgnR;rw[h];rfl
theorem qsign_any(n d:ByteArray)(w:World)(hn:n.size≤100000)(hd:d.size≤100000) :
  Calls Tryz.prog 42 #[.agg #[.string n,.string d]] w (GiveI w (sgnR (n.data.toList,d.data.toList))):=by
 have cm:=fun w=>qmay_any n d w hn hd;have cs:=fun w=>wsign_any n w (by omega)
 cases h:isR (n.data.toList,d.data.toList) with
 | false =>
  rw[h]at cm;rw[sgn_no h];clear h cs hn hd;have CM:=zh cm;clear cm;go_enter Tryz.func42,Tryz.ntmps42;go_wp2_with fail;obtain⟨W,hW,BW,sW,k0,k1⟩:=box1 w (.string n) (.string d) 23;have hB:=zh (Nat.le_refl W.heap.size);rw[hW];clear hW;have b0:=Below.refl W.heap.size W;refine(CM.out _).mono ?_;rintro e w1 ⟨rfl,b⟩;have b1:=Below.more b0 b;clear b;go_wp2_with fail;go_ret;exact⟨rfl,Below.more BW b1⟩
 | true =>
  rw[h]at cm;have e:sgnW n.data.toList=sgnR (n.data.toList,d.data.toList):=sgn_is h;rw[e]at cs;generalize sgnR (n.data.toList,d.data.toList)=x at *;clear h e hn hd;have CM:=zh cm;have CS:=zh cs;clear cm cs;go_enter Tryz.func42,Tryz.ntmps42;go_wp2_with fail;obtain⟨W,hW,BW,sW,k0,k1⟩:=box1 w (.string n) (.string d) 23;have hB:=zh (Nat.le_refl W.heap.size);rw[hW];clear hW;have b0:=Below.refl W.heap.size W;refine(CM.out _).mono ?_;rintro e w1 ⟨rfl,b⟩;have b1:=Below.more b0 b;clear b;go_wp2_with fail;refine(CS.out _).mono ?_;rintro e w' ⟨rfl,rfl⟩;go_wp2_with fail;go_ret;exact⟨rfl,Below.more BW b1⟩
end Go.Proofs.YthgopcnagecbaaaGreatDoor
