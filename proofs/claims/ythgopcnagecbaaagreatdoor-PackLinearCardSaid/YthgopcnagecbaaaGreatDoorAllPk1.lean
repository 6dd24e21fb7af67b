/- Own work. -/
import Derived.Test.YthgopcnagecbaaaGreatDoorAllAc2
import Derived.Test.YthgopcnagecbaaaGreatDoorAllFx2
import Derived.Test.YthgopcnagecbaaaGreatDoorGrwTM
set_option linter.unusedSimpArgs false
set_option linter.unusedVariables false
set_option maxHeartbeats 4000000
set_option maxRecDepth 100000
namespace Go.Proofs.YthgopcnagecbaaaGreatDoor
open Go.RowKit
open Pk (Part Pack mayP valueP keepsP ofP)
def GiveV(w:World)(v:Value)(e:Ending)(w':World):Prop:=e=.returned v∧Below w.heap.size w w'
theorem part_any(a n e:List UInt8)(w:World):Calls Tryz.prog 37 #[.string ⟨a.toArray⟩,.agg #[.string ⟨n.toArray⟩,.string ⟨e.toArray⟩]] w (GiveV w (.agg #[.string ⟨a.toArray⟩,.string ⟨n.toArray⟩,.string ⟨e.toArray⟩])):=by
 go_enter Tryz.func37,Tryz.ntmps37;go_wp2_with fail;refine bodyPost_ret (v:=.agg #[.string ⟨a.toArray⟩,.string ⟨n.toArray⟩,.string ⟨e.toArray⟩]) (by simp[results,Tryz.results37,go_sem, *]) rfl ⟨rfl,?_⟩;exact Below.alloc (Below.alloc (Below.refl _ _) (Nat.le_refl _) _) (Below.size (Below.alloc (Below.refl _ _) (Nat.le_refl _) _)) _
theorem kept_any(a:List UInt8)(w:World)(hg:GoodT w):Calls Tryz.prog 40 #[.string ⟨a.toArray⟩] w (GiveV w (.agg #[.string ⟨a.toArray⟩,.string ⟨[49].toArray⟩,.string ⟨[49].toArray⟩])):=by
 have CO:Hid (∀V,Below w.heap.size w V→Calls Tryz.prog 39 #[.int .i64 1] V (GiveV V (.agg #[.string ⟨#[49]⟩,.string ⟨#[49]⟩]))):=zh (fun V hV=>by
  have h:=qof_any 1 V (by decide) (by decide) (hg.below hV);rw[show wd 1=[49] by decide +kernel]at h;exact h)
 have CP:=zh (part_any a [49] [49]);clear hg;go_enter Tryz.func40,Tryz.ntmps40;go_wp2_with fail;have hX:=blk_new w #[.string ⟨#[]⟩,.string ⟨#[]⟩,.string ⟨#[]⟩] 45;have bX:Below w.heap.size w (w.alloc (.cells #[.string ⟨#[]⟩,.string ⟨#[]⟩,.string ⟨#[]⟩] 45)):=Below.alloc (Below.refl _ _) (Nat.le_refl _) _;refine(CO.out _ bX).mono ?_;rintro e1 w1 ⟨rfl,b⟩;replace hX:=hX.below b;have b1:=Below.more bX b;clear b bX;go_wp2_with fail;refine(CP.out _).mono ?_;rintro e2 w2 ⟨rfl,b⟩;replace hX:=hX.below b;have b2:=Below.more b1 b;clear b b1;have y0:=hX.c 0 _ rfl;have y1:=hX.c 1 _ rfl;have y2:=hX.c 2 _ rfl
 have z0:=hX.f 0 (by simp);have z1:=hX.f 1 (by simp);have z2:=hX.f 2 (by simp)
 clear hX;go_wp2_with fail;refine bodyPost_ret (v:=.agg #[.string ⟨a.toArray⟩,.string ⟨[49].toArray⟩,.string ⟨[49].toArray⟩]) (by simp[results,Tryz.results40,go_sem, *]) rfl ⟨rfl,?_⟩;exact Below.setCell (Below.setCell (Below.setCell (b2) (Nat.le_refl _) _) (Nat.le_refl _) _) (Nat.le_refl _) _
theorem orderG_any(a n e c m g:List UInt8)(w:World):Calls Tryz.prog 43 #[.agg #[.string ⟨a.toArray⟩,.string ⟨n.toArray⟩,.string ⟨e.toArray⟩],.agg #[.string ⟨c.toArray⟩,.string ⟨m.toArray⟩,.string ⟨g.toArray⟩]] w (GiveGw w (Lib.compareBytes a c)):=by
 have C1:=zh (fun w=>scmpG a c w);go_enter Tryz.func43,Tryz.ntmps43;go_wp2_with fail;obtain⟨U1,hU,bU,s1,kx⟩:=layN (Below.refl w.heap.size w) #[.string ⟨a.toArray⟩,.string ⟨n.toArray⟩,.string ⟨e.toArray⟩] 45;have g1:Grw w U1:=hU▸(Grw.refl w).alloc _;rw[hU];clear hU;obtain⟨U2,hU,bV,s2,ky⟩:=layN (Below.refl U1.heap.size U1) #[.string ⟨c.toArray⟩,.string ⟨m.toArray⟩,.string ⟨g.toArray⟩] 45;have g2:Hid (Grw w U2):=zh (hU▸g1.alloc _);rw[hU];clear hU g1;rw[←s1]at ky;have qx:=kx 0 _ rfl U2 bV;have qy:=ky 0 _ rfl U2 (Below.refl _ _);clear kx ky bU bV s1 s2;go_wp2_with fail;refine(C1.out _).mono ?_;rintro e w3 ⟨rfl,g3⟩;go_wp2_with fail;go_ret;exact⟨rfl,g2.out.trans g3⟩
theorem order_any(a n e c m g:List UInt8)(w:World):Calls Tryz.prog 43 #[.agg #[.string ⟨a.toArray⟩,.string ⟨n.toArray⟩,.string ⟨e.toArray⟩],.agg #[.string ⟨c.toArray⟩,.string ⟨m.toArray⟩,.string ⟨g.toArray⟩]] w (GiveI w (Lib.compareBytes a c)) :=
 (orderG_any a n e c m g w).mono fun _ _ ⟨h,k⟩=>⟨h,k.below⟩
def GiveIx(w:World)(l:List Part)(x:Part)(e:Ending)(w':World):Prop:=(∃i:Int,e=.returned (.int .i64 i)∧decide (0≤i)=l.any (·==x))∧Below w.heap.size w w'
theorem any_stop{l:List Part}{x:Part}{k:Nat}(h:l[k]?=some x):l.any (·==x)=true:=List.any_eq_true.2 ⟨x,List.mem_of_getElem? h,by simp⟩
theorem any_end{l:List Part}{x:Part}(h:∀ (j:Nat) (y:Part),j<l.length→l[j]?=some y→¬y=x):l.any (·==x)=false:=by
 rw[List.any_eq_false];intro y hy e;obtain⟨j,hj,e2⟩:=List.getElem_of_mem hy;exact h j y hj (by rw[List.getElem?_eq_getElem hj,e2]) (by simpa using e)
theorem index_any(p:Option Addr)(c:Nat)(l:List Part)(a n e:List UInt8)(w:World)(hc:l.length≤c)(hl:l.length≤1000000)(h:Pts w p l) :
  Calls Tryz.prog 83 #[.slice p l.length c,.agg #[.string ⟨a.toArray⟩,.string ⟨n.toArray⟩,.string ⟨e.toArray⟩]] w (GiveIx w l (a,(n,e))):=by
 have HS:=zh h;clear h;go_enter Tryz.func83,Tryz.ntmps83;go_wp2_with fail;obtain⟨W,hW,BW,sW,kk⟩:=layN (Below.refl w.heap.size w) #[.string ⟨a.toArray⟩,.string ⟨n.toArray⟩,.string ⟨e.toArray⟩] 45
 (try (rw[hW]));clear hW sW
 replace HS:=zh (HS.out.below BW);have t0:=kk 0 _ rfl;have t1:=kk 1 _ rfl;have t2:=kk 2 _ rfl
 clear kk
 (try go_wp2_with fail)
 go_loopw [8] (fun i wr=>∃k:Nat,k≤l.length∧i=.int .i64 k∧Hid (∀ (j:Nat) (y:Part),j<k→l[j]?=some y→¬y=(a,(n,e)))∧Below W.heap.size W wr) (fun i _=>l.length-(intOf i).toNat)
 case atStart=>exact⟨0,Nat.zero_le _,rfl,fun j y h=>absurd h (Nat.not_lt_zero j),Below.refl _ _⟩
 case round =>
  obtain⟨k,hk,rfl,HJ,hw⟩:=hrel;by_cases hlt:k<l.length
  ·obtain⟨⟨a',⟨n',e'⟩⟩,hx⟩:∃x,l[k]?=some x:=⟨_,List.getElem?_eq_getElem hlt⟩;obtain⟨b,o,rfl,i0,i1,i2⟩:=pt_rule (HS.out.below hw) hx;have HW:=zh hw;have HX:=zh hx
   replace t0:=fun v hv=>t0 v (Below.more hw hv);replace t1:=fun v hv=>t1 v (Below.more hw hv);replace t2:=fun v hv=>t2 v (Below.more hw hv);have c0:=Below.refl wr.heap.size wr;clear hx hw
   cases q0:(a==a') with
   | false =>
    have HN:Hid (¬(a',(n',e'))=(a,(n,e))):=zh (fun h=>by cases h;simp at q0);go_wp2_with fail;refine wp_region_noPanic ?_;refine wp_region_held_drew (S:=fun w'=>Below wr.heap.size wr w') (by kernel_rfl) (c0.drew) (fun hH0=>?_);refine sch_in [0,1,2,3,4,5] ?_
    iterate 6 (refine sch_yes (v:=?_) rfl (by kernel_rfl) (by rfl) ?_ (by assumption) ?_;rotate_left 1;(· (intro w hSw;(try dsimp only at hSw);go_simp<;>(with_reducible rfl)));try simp only[Act.put,qA,qB,qC,qD,qE,qF])
    refine sch_out ?_;refine wpAnyH_done (by kernel_rfl) ?_ _;refine NoPanic.normal ?_;have c1:=hH0;clear hH0;go_wp2_with fail;go_roundw
    case rel=>exact⟨k+1,hlt,by go_num,morePt HJ.out HX.out HN.out,Below.more HW.out c1⟩
    case measure=>simp[intOf];omega
   | true =>
   cases q1:(n==n') with
   | false =>
    have HN:Hid (¬(a',(n',e'))=(a,(n,e))):=zh (fun h=>by cases h;simp at q1);go_wp2_with fail;refine wp_region_noPanic ?_;refine wp_region_held_drew (S:=fun w'=>Below wr.heap.size wr w') (by kernel_rfl) (c0.drew) (fun hH0=>?_);refine sch_in [0,1,2,3,4,5] ?_
    iterate 6 (refine sch_yes (v:=?_) rfl (by kernel_rfl) (by rfl) ?_ (by assumption) ?_;rotate_left 1;(· (intro w hSw;(try dsimp only at hSw);go_simp<;>(with_reducible rfl)));try simp only[Act.put,qA,qB,qC,qD,qE,qF])
    refine sch_out ?_;refine wpAnyH_done (by kernel_rfl) ?_ _;refine NoPanic.normal ?_;have c1:=hH0;clear hH0;go_wp2_with fail;go_roundw
    case rel=>exact⟨k+1,hlt,by go_num,morePt HJ.out HX.out HN.out,Below.more HW.out c1⟩
    case measure=>simp[intOf];omega
   | true =>
   cases q2:(e==e') with
   | false =>
    have HN:Hid (¬(a',(n',e'))=(a,(n,e))):=zh (fun h=>by cases h;simp at q2);go_wp2_with fail;refine wp_region_noPanic ?_;refine wp_region_held_drew (S:=fun w'=>Below wr.heap.size wr w') (by kernel_rfl) (c0.drew) (fun hH0=>?_);refine sch_in [0,1,2,3,4,5] ?_
    iterate 6 (refine sch_yes (v:=?_) rfl (by kernel_rfl) (by rfl) ?_ (by assumption) ?_;rotate_left 1;(· (intro w hSw;(try dsimp only at hSw);go_simp<;>(with_reducible rfl)));try simp only[Act.put,qA,qB,qC,qD,qE,qF])
    refine sch_out ?_;refine wpAnyH_done (by kernel_rfl) ?_ _;refine NoPanic.normal ?_;have c1:=hH0;clear hH0;go_wp2_with fail;go_roundw
    case rel=>exact⟨k+1,hlt,by go_num,morePt HJ.out HX.out HN.out,Below.more HW.out c1⟩
    case measure=>simp[intOf];omega
   | true =>
    have HY:Hid (l.any (·==(a,(n,e)))=true):=zh (any_stop (k:=k) (by rw[HX.out];rw[beq_iff_eq]at q0 q1 q2;rw[q0,q1,q2]));go_wp2_with fail;refine wp_region_noPanic ?_;refine wp_region_held_drew (S:=fun w'=>Below wr.heap.size wr w') (by kernel_rfl) (c0.drew) (fun hH0=>?_);refine sch_in [0,1,2,3,4,5] ?_
    iterate 6 (refine sch_yes (v:=?_) rfl (by kernel_rfl) (by rfl) ?_ (by assumption) ?_;rotate_left 1;(· (intro w hSw;(try dsimp only at hSw);go_simp<;>(with_reducible rfl)));try simp only[Act.put,qA,qB,qC,qD,qE,qF])
    refine sch_out ?_;refine wpAnyH_done (by kernel_rfl) ?_ _;refine NoPanic.normal ?_;have c1:=hH0;clear hH0;go_wp2_with fail;go_ret;exact⟨⟨k,rfl,by rw[HY.out];exact decide_eq_true (Int.natCast_nonneg k)⟩,Below.more BW (Below.more HW.out c1)⟩
  ·obtain rfl:k=l.length:=by omega
   have HY:Hid (l.any (·==(a,(n,e)))=false):=zh (any_end HJ.out);go_wp2_with fail;go_ret;exact⟨⟨-1,rfl,by rw[HY.out];rfl⟩,Below.more BW hw⟩
theorem contains_any(p:Option Addr)(c:Nat)(l:List Part)(a n e:List UInt8)(w:World)(hc:l.length≤c)(hl:l.length≤1000000)(h:Pts w p l) :
  Calls Tryz.prog 46 #[.slice p l.length c,.agg #[.string ⟨a.toArray⟩,.string ⟨n.toArray⟩,.string ⟨e.toArray⟩]] w (GiveB w (l.any (·==(a,(n,e))))):=by
 have CI:=zh (fun V (hV:Below w.heap.size w V)=>index_any p c l a n e V hc hl (h.below hV));clear h;go_enter Tryz.func46,Tryz.ntmps46;go_wp2_with fail;obtain⟨W,hW,BW,sW,kk⟩:=layN (Below.refl w.heap.size w) #[.string ⟨a.toArray⟩,.string ⟨n.toArray⟩,.string ⟨e.toArray⟩] 45;rw[hW];clear hW sW;have t0:=kk 0 _ rfl W (Below.refl _ _);have t1:=kk 1 _ rfl W (Below.refl _ _);have t2:=kk 2 _ rfl W (Below.refl _ _)
 clear kk;go_wp2_with fail;refine(CI.out _ BW).mono ?_;rintro e1 w1 ⟨⟨i,rfl,hi⟩,b⟩;have HI:=zh hi;clear hi;go_wp2_with fail;go_ret;exact⟨ret_bool (by first|rw[←HI.out]|(rw[←HI.out];rfl)|simp[HI.out]),Below.more BW b⟩
theorem keeps_any(p:Option Addr)(c:Nat)(x:Pack)(s:List UInt8)(w:World)(hc:x.parts.length≤c)(hl:x.parts.length≤1000)(h:Pts w p x.parts)(hg:GoodT w) :
  Calls Tryz.prog 19 #[.agg #[.slice p x.parts.length c,.string ⟨x.cash.1.toArray⟩,.string ⟨x.cash.2.toArray⟩],.string ⟨s.toArray⟩] w (GiveB w (keepsP x s)):=by
 have CI:=zh (fun V (hV:Below w.heap.size w V)=>contains_any p c x.parts s [49] [49] V hc (by omega) (h.below hV));have CK:=zh (fun V (hV:Below w.heap.size w V)=>kept_any s V (hg.below hV));have HE:Hid (x.parts.any (·==(s,([49],[49])))=keepsP x s):=zh (by
  unfold keepsP
  congr 1)
 rw[HE.out]at CI;generalize keepsP x s=r at *;clear h hg HE;go_enter Tryz.func19,Tryz.ntmps19;go_wp2_with fail;obtain⟨W,hW,BW,sW,kk⟩:=layN (Below.refl w.heap.size w) #[.slice p x.parts.length c,.string ⟨x.cash.1.toArray⟩,.string ⟨x.cash.2.toArray⟩] 28;rw[hW];clear hW sW;have t0:=kk 0 _ rfl;have t1:=kk 1 _ rfl;have t2:=kk 2 _ rfl
 clear kk;have b0:=Below.refl W.heap.size W;have hB:=zh (Nat.le_refl W.heap.size)
 (try go_wp2_with fail)
 refine wp_region_noPanic ?_;refine wp_region_held_drew (S:=fun w'=>Below W.heap.size W w') (by kernel_rfl) (b0.drew) (fun hH0=>?_);refine wpAnyH_take (i:=0) (v:=?_) rfl (by kernel_rfl) (by kernel_rfl) (by kernel_rfl) (fun _ _ _ h=>h) (Or.inl ⟨by rfl,?_⟩) (by assumption) ?_;rotate_left 1
 ·(intro w hSw;(try dsimp only at hSw);go_simp<;>(with_reducible rfl))
 try simp only[Act.put,qA,qB,qC,qD,qE,qF]
 refine wpAnyH_take (i:=1) (v:=?_) rfl (by kernel_rfl) (by kernel_rfl) (by kernel_rfl) (fun _ _ _ h=>h) (Or.inl ⟨by rfl,?_⟩) (by assumption) ?_;rotate_left 1
 ·(intro w hSw;(try dsimp only at hSw);go_simp<;>(with_reducible rfl))
 try simp only[Act.put,qA,qB,qC,qD,qE,qF]
 refine wpAnyH_take (i:=2) (v:=?_) rfl (by kernel_rfl) (by kernel_rfl) (by kernel_rfl) (fun _ _ _ h=>h) (Or.inl ⟨by rfl,?_⟩) (by assumption) ?_;rotate_left 1
 ·(intro w hSw;(try dsimp only at hSw);go_simp<;>(with_reducible rfl))
 try simp only[Act.put,qA,qB,qC,qD,qE,qF]
 refine wpAnyH_ready (rs:=[3]) (by kernel_rfl) (by simp) ?_;refine AllReadyH.cons rfl (fun K hK=>?_) AllReadyH.nil
 go_simp
 refine(held (W:=W) hB.out (CK.out _ (Below.more BW (by assumption))) (by assumption)).mono ?_;rintro e w'' ⟨rfl,hb,hw⟩
 (try go_wp2_with fail)
 refine hK.out _ _ hw (fun hH1=>?_);clear hK hH0 hb
 try simp only[Act.put,qA,qB,qC,qD,qE,qF]
 refine wpAnyH_ready (rs:=[4]) (by kernel_rfl) (by simp) ?_;refine AllReadyH.cons rfl (fun K hK=>?_) AllReadyH.nil
 go_simp
 refine(held (W:=W) hB.out (CI.out _ (Below.more BW (by assumption))) (by assumption)).mono ?_;rintro e w'' ⟨rfl,hb,hw⟩
 (try go_wp2_with fail)
 refine hK.out _ _ hw (fun hH2=>?_);clear hK hH1 hb
 try simp only[Act.put,qA,qB,qC,qD,qE,qF]
 refine wpAnyH_take (i:=5) (v:=?_) rfl (by kernel_rfl) (by kernel_rfl) (by kernel_rfl) (fun _ _ _ h=>h) (Or.inl ⟨by rfl,?_⟩) (by assumption) ?_;rotate_left 1
 ·(intro w hSw;(try dsimp only at hSw);go_simp<;>(with_reducible rfl))
 try simp only[Act.put,qA,qB,qC,qD,qE,qF]
 refine wpAnyH_done (by kernel_rfl) ?_ _;refine NoPanic.normal ?_;have b1:=hw;clear hw;go_wp2_with fail;go_ret;exact⟨ret_bool (by first|rfl|simp),Below.more BW b1⟩
end Go.Proofs.YthgopcnagecbaaaGreatDoor
