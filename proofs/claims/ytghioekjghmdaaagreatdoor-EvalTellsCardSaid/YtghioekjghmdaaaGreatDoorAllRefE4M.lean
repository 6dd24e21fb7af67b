/- Own work. -/
import Derived.Test.YtghioekjghmdaaaGreatDoorTk
import Derived.Test.YtghioekjghmdaaaGreatDoorAllRefE2
import Derived.Test.YtghioekjghmdaaaGreatDoorAllEv5
set_option linter.unusedSimpArgs false
set_option linter.unusedVariables false
namespace Go.Proofs.YtghioekjghmdaaaGreatDoor
open Go.RowKit
theorem wpAnyH_phase{P:Program}{ops:Array Oper}{Q:Exit→Act→World→Prop}{md:Region.Mode}{S:World→Prop}{J:Nat→Array Bool→Act→World→Prop}
  (h:∀n l a w,J n l a w→S w→wpAnyH P md ops Q S n l a w∨∃m,n=m+1∧Region.ready md ops l≠[]∧∀i∈Region.ready md ops l,wpOp P ops Q i (fun a' w'=>S w'∧J m (l.setIfInBounds i true) a' w') a w) :
  ∀ (n:Nat) (l:Array Bool) (a:Act) (w:World),J n l a w→S w→wpAnyH P md ops Q S n l a w
 | 0,l,a,w,hJ,hS=>by
  rcases h 0 l a w hJ hS with h1|⟨m,e,_⟩
  ·exact h1
  ·cases e
 | n+1,l,a,w,hJ,hS=>by
  rcases h (n+1) l a w hJ hS with h1|⟨m,e,hne,hi⟩
  ·exact h1
  ·cases e
   exact⟨fun h0=>absurd h0 hne,fun i hm=>wpOp_mono (fun a' w' hk=>⟨hk.1,wpAnyH_phase h n _ a' w' hk.2 hk.1⟩) (hi i hm)⟩
theorem wpAnyH_at{P:Program}{ops:Array Oper}{Q:Exit→Act→World→Prop}{md:Region.Mode}{S:World→Prop}(J:Act→Nat→Array Bool→Act→World→Prop){n:Nat}{l:Array Bool}{a0:Act}{w:World}(h0:J a0 n l a0 w)(hS:S w)
  (h:∀n l a w,J a0 n l a w→S w→wpAnyH P md ops Q S n l a w∨∃m,n=m+1∧Region.ready md ops l≠[]∧∀i∈Region.ready md ops l,wpOp P ops Q i (fun a' w'=>S w'∧J a0 m (l.setIfInBounds i true) a' w') a w):wpAnyH P md ops Q S n l a0 w :=
 wpAnyH_phase h n l a0 w h0 hS
theorem phase_step{P:Program}{ops:Array Oper}{Q:Exit→Act→World→Prop}{md:Region.Mode}{l:Array Bool}{a:Act}{w:World}{K:Nat→Act→World→Prop}(f:Nat→Bool)(hn:(!(Region.ready md ops l).isEmpty&&(Region.ready md ops l).all f)=true)
  (h:∀i,f i=true→wpOp P ops Q i (K i) a w):Region.ready md ops l≠[]∧∀i∈Region.ready md ops l,wpOp P ops Q i (K i) a w:=by
 simp only[Bool.and_eq_true,Bool.not_eq_true',List.isEmpty_eq_false_iff,List.all_eq_true]at hn;exact⟨hn.1,fun i hi=>h i (hn.2 i hi)⟩
def vK(k j:Nat)(v:Value):Value:=if j<k then v else undef
def vO:Option Nat→Value
 | none=>undef
 | some b=>.pointer (some ⟨b,0,none⟩)
def nO:Option Nat→Nat
 | none=>0
 | some _=>1
structure Lay3(B:Nat)(o1 o2 o3:Option Nat)(w:World):Prop where
 z:∀b,o1=some b∨o2=some b∨o3=some b→Zc b (.string ⟨#[]⟩) (.string ⟨#[]⟩) w∧B≤b
 n12:∀b,o1=some b→o2≠some b
 n13:∀b,o1=some b→o3≠some b
 n23:∀b,o2=some b→o3≠some b
section
variable {B : Nat} {o1 o2 o3 : Option Nat} {w w' : World}
theorem lay3_none:Lay3 B none none none w:=⟨fun b h=>(by rcases h with h|h|h<;>cases h),fun b h=>(by cases h),fun b h=>(by cases h),fun b h=>(by cases h)⟩
theorem Lay3.below(h:Lay3 B o1 o2 o3 w)(hb:Below w.heap.size w w'):Lay3 B o1 o2 o3 w':=⟨fun b k=>⟨(h.z b k).1.below hb,(h.z b k).2⟩,h.n12,h.n13,h.n23⟩
theorem Lay3.ne(h:Lay3 B o1 o2 o3 w):o1≠some w.heap.size∧o2≠some w.heap.size∧o3≠some w.heap.size :=
 ⟨fun e=>absurd (h.z _ (.inl e)).1.lt (Nat.lt_irrefl _),fun e=>absurd (h.z _ (.inr (.inl e))).1.lt (Nat.lt_irrefl _),fun e=>absurd (h.z _ (.inr (.inr e))).1.lt (Nat.lt_irrefl _)⟩
theorem Lay3.put1(h:Lay3 B none o2 o3 w)(hB:B≤w.heap.size)(t:TypeId):Lay3 B (some w.heap.size) o2 o3 (w.alloc (.cells #[.string ⟨#[]⟩,.string ⟨#[]⟩] t)):=by
 have k:=h.below (Below.alloc (Below.refl w.heap.size w) (Nat.le_refl _) (.cells #[.string ⟨#[]⟩,.string ⟨#[]⟩] t));obtain⟨_,e2,e3⟩:=h.ne;refine⟨fun b hb=>?_,fun b e=>?_,fun b e=>?_,h.n23⟩
 ·rcases hb with e|e|e
  ·cases e;exact⟨zc_new w _ _ t,hB⟩
  ·exact k.z b (.inr (.inl e))
  ·exact k.z b (.inr (.inr e))
 ·cases e;exact e2
 ·cases e;exact e3
theorem Lay3.put2(h:Lay3 B o1 none o3 w)(hB:B≤w.heap.size)(t:TypeId):Lay3 B o1 (some w.heap.size) o3 (w.alloc (.cells #[.string ⟨#[]⟩,.string ⟨#[]⟩] t)):=by
 have k:=h.below (Below.alloc (Below.refl w.heap.size w) (Nat.le_refl _) (.cells #[.string ⟨#[]⟩,.string ⟨#[]⟩] t));obtain⟨e1,_,e3⟩:=h.ne;refine⟨fun b hb=>?_,fun b e f=>?_,h.n13,fun b e=>?_⟩
 ·rcases hb with e|e|e
  ·exact k.z b (.inl e)
  ·cases e;exact⟨zc_new w _ _ t,hB⟩
  ·exact k.z b (.inr (.inr e))
 ·cases f;exact e1 e
 ·cases e;exact e3
theorem Lay3.put3(h:Lay3 B o1 o2 none w)(hB:B≤w.heap.size)(t:TypeId):Lay3 B o1 o2 (some w.heap.size) (w.alloc (.cells #[.string ⟨#[]⟩,.string ⟨#[]⟩] t)):=by
 have k:=h.below (Below.alloc (Below.refl w.heap.size w) (Nat.le_refl _) (.cells #[.string ⟨#[]⟩,.string ⟨#[]⟩] t));obtain⟨e1,e2,_⟩:=h.ne;refine⟨fun b hb=>?_,h.n12,fun b e f=>?_,fun b e f=>?_⟩
 ·rcases hb with e|e|e
  ·exact k.z b (.inl e)
  ·exact k.z b (.inr (.inl e))
  ·cases e;exact⟨zc_new w _ _ t,hB⟩
 ·cases f;exact e1 e
 ·cases f;exact e2 e
end
end Go.Proofs.YtghioekjghmdaaaGreatDoor
set_option maxHeartbeats 4000000
set_option maxRecDepth 100000
namespace Go.Proofs.YtghioekjghmdaaaGreatDoor
open Go.RowKit
open Tm (Nd)
open Ev (hiQ loQ Dg)
section
variable (f : Int → Rat) (a : Int) (k : Nat)
def psF:List Rat:=(List.range k).map fun (i:Nat)=>f (a+(i:Int))
def suK:Rat:=(psF f a k).foldl (·+·) 0
def hiK:Rat:=(psF f a k).foldl hiQ (f a)
def loK:Rat:=(psF f a k).foldl loQ (f a)
theorem pF_next:psF f a (k+1)=psF f a k++[f (a+(k:Int))]:=by unfold psF;rw[List.range_succ,List.map_append];rfl
theorem su_next:suK f a (k+1)=suK f a k+f (a+(k:Int)):=by unfold suK;rw[pF_next,List.foldl_append];rfl
theorem hi_next:hiK f a (k+1)=hiQ (hiK f a k) (f (a+(k:Int))):=by unfold hiK;rw[pF_next,List.foldl_append];rfl
theorem lo_next:loK f a (k+1)=loQ (loK f a k) (f (a+(k:Int))):=by unfold loK;rw[pF_next,List.foldl_append];rfl
theorem pF_len:(psF f a k).length=k:=by unfold psF;rw[List.length_map,List.length_range]
end
theorem sum_dg60{D:Nat}{p:List Rat}(h:∀y∈p,Dg D y)(hl:p.length≤60):Dg (60*D+2) (p.foldl (·+·) 0):=by
 obtain⟨a,b⟩:=Ev.sum_dg (D:=D) p 0 0 (Nat.zero_le _) (Nat.le_of_eq rfl) h;rw[Nat.zero_add]at a b;have hp:10 ^ (D*p.length)≤10 ^ (60*D):=Nat.pow_le_pow_right (by decide) (by rw[Nat.mul_comm];exact Nat.mul_le_mul_right _ hl);have e:10 ^ (60*D+2)=10 ^ (60*D)*100:=by rw[Nat.pow_add]
 have q:0<10 ^ (60*D):=Nat.pow_pos (by decide);have m:=Nat.mul_le_mul hl hp;refine⟨⟨?_,?_⟩,by omega⟩<;>rw[e]<;>omega
theorem dg_sh{k:Nat}{x:Rat}(h:Dg k x)(hk:k≤18999):ShQ x:=⟨by have:=h.len.1;omega,by have:=h.len.2;omega⟩
theorem nat_sh{n:Nat}(h:n≤60):ShQ ((n:Nat):Rat):=by
 unfold ShQ;rw[Ev.rd_nat];have:=wd_length (n:Int);have:=dig_length (n:=(n:Int).natAbs) (k:=2) (by decide) (by omega);exact⟨by show (wd (n:Int)).length≤_;omega,(by decide:1≤19000)⟩
theorem leaf_sh{D:Nat}(hD:60*D+4≤18000){f:Int→Rat}(hf:∀d,Dg D (f d))(a:Int){k:Nat}(hk:k≤60):ShQ (suK f a k)∧ShQ (hiK f a k)∧ShQ (loK f a k):=by
 have hm:∀y∈psF f a k,Dg D y:=fun y hy=>by
  unfold psF at hy;obtain⟨i,_,rfl⟩:=List.mem_map.1 hy;exact hf _
 exact⟨dg_sh (sum_dg60 hm (by rw[pF_len];exact hk)) (by omega),dg_sh (Ev.fold_dg Ev.hi_two (hf a) hm) (by omega),dg_sh (Ev.fold_dg Ev.lo_two (hf a) hm) (by omega)⟩
def leafR(op:Int)(q:Rat)(ps:List Rat):Key:=if op=3 then rd (ps.foldl hiQ q) else if op=4 then rd (ps.foldl loQ q) else if ps.length=0 then ([],[]) else rd (ps.foldl (·+·) 0 / (ps.length:Rat))
structure Acc(f:Int→Rat)(a:Int)(bs bh bl:Nat)(k j m:Nat)(w:World):Prop where
 s:Zc bs (.string ⟨(rd (suK f a k)).1.toArray⟩) (.string ⟨(rd (suK f a k)).2.toArray⟩) w
 h:Zc bh (.string ⟨(rd (hiK f a j)).1.toArray⟩) (.string ⟨(rd (hiK f a j)).2.toArray⟩) w
 l:Zc bl (.string ⟨(rd (loK f a m)).1.toArray⟩) (.string ⟨(rd (loK f a m)).2.toArray⟩) w
theorem Acc.below{f:Int→Rat}{a:Int}{bs bh bl k j m:Nat}{w w':World}(h:Acc f a bs bh bl k j m w)(hb:Below w.heap.size w w'):Acc f a bs bh bl k j m w':=⟨h.s.below hb,h.h.below hb,h.l.below hb⟩
def Lf(k:Nat)(x y z:Bool):Array Bool:=#[decide (0<k),true,true,true,true,true,decide (1<k),true,true,true,true,true,decide (2<k),x,y,z,false,false,false]
def Af(u v:Value)(a0:Act)(k:Nat)(o1 o2 o3:Option Nat):Act:=(((((a0.put (some 18) (vK k 0 u)).put (some 24) (vK k 1 v)).put (some 30) (vK k 2 v)).put (some 5) (vO o1)).put (some 6) (vO o2)).put (some 7) (vO o3)
def Jf(B:Nat)(u v:Value)(a0:Act)(n:Nat)(l:Array Bool)(a:Act)(w:World):Prop:=∃ (k:Nat) (o1 o2 o3:Option Nat),k≤3∧n+(k+nO o1+nO o2+nO o3)=9∧l=Lf k o1.isSome o2.isSome o3.isSome∧a=Af u v a0 k o1 o2 o3∧Lay3 B o1 o2 o3 w
theorem eleaf_any{D:Nat}(hD:60*D+4≤18000)(op:Int)(nn ee s:List UInt8)(a b z:Int)(f:Int→Rat)(N:Nat)(p:Option Addr)(c m:Nat)(w:World)(h0:¬op=0)(ha:0≤a∧a≤9999)(hz:Ev.lastN (Nd.mk op (nn,ee) s a b)=z)(hN:(z+1-a).toNat=N)(hN60:N≤60)(hf:∀d,Dg D (f d))
  (cp:∀V,Below w.heap.size w V→∀d:Int,Calls Tryz.prog 67 #[.slice p m c,.string ⟨s.toArray⟩,.int .i64 d] V (GiveR V (rd (f d)))) :
  Calls Tryz.prog 36 #[.agg #[.int .i64 op,.string ⟨nn.toArray⟩,.string ⟨ee.toArray⟩,.string ⟨s.toArray⟩,.int .i64 a,.int .i64 b],.slice p m c] w (GiveR w (leafR op (f a) (psF f a N))):=by
 have CP:=zh cp;have CL:=zh (fun V=>hz▸elast_any op nn ee s a b V ha.1 (by omega));have sh:=fun k (hk:k≤N)=>leaf_sh hD hf a (k:=k) (Nat.le_trans hk hN60);have shf:=fun d=>dg_sh (hf d) (show D≤18999 by omega);have CA:Hid (∀k,k<N→∀V,Calls Tryz.prog 23 #[.agg #[.string ⟨(rd (suK f a k)).1.toArray⟩,.string ⟨(rd (suK f a k)).2.toArray⟩],.agg #[.string ⟨(rd (f (a+(k:Int)))).1.toArray⟩,.string ⟨(rd (f (a+(k:Int)))).2.toArray⟩]] V (GiveR V (rd (suK f a (k+1))))):=zh fun k hk V=>by rw[su_next];exact eadd (sh k (Nat.le_of_lt hk)).1 (shf _) V
 have CH:Hid (∀k,k<N→∀V,Calls Tryz.prog 68 #[.agg #[.string ⟨(rd (hiK f a k)).1.toArray⟩,.string ⟨(rd (hiK f a k)).2.toArray⟩],.agg #[.string ⟨(rd (f (a+(k:Int)))).1.toArray⟩,.string ⟨(rd (f (a+(k:Int)))).2.toArray⟩]] V (GiveR V (rd (hiK f a (k+1))))):=zh fun k hk V=>by rw[hi_next];exact egreater_any (sh k (Nat.le_of_lt hk)).2.1 (shf _) V
 have CO:Hid (∀k,k<N→∀V,Calls Tryz.prog 69 #[.agg #[.string ⟨(rd (loK f a k)).1.toArray⟩,.string ⟨(rd (loK f a k)).2.toArray⟩],.agg #[.string ⟨(rd (f (a+(k:Int)))).1.toArray⟩,.string ⟨(rd (f (a+(k:Int)))).2.toArray⟩]] V (GiveR V (rd (loK f a (k+1))))):=zh fun k hk V=>by rw[lo_next];exact elesser_any (sh k (Nat.le_of_lt hk)).2.2 (shf _) V
 have CDZ:Hid (N=0→∀V,Calls Tryz.prog 20 #[.agg #[.string ⟨(rd (suK f a N)).1.toArray⟩,.string ⟨(rd (suK f a N)).2.toArray⟩],.agg #[.string ⟨(wd (N:Int)).toArray⟩,.string ⟨#[49]⟩]] V (GiveRB V (([],[]),false))):=zh fun h V=>by
  have e:rd (0:Rat)=(wd (N:Int),[49]):=by rw[h,← Ev.rd_nat];rfl
  have k:=ediv0 (sh N (Nat.le_refl _)).1 V;rw[e]at k;exact k
 have CDN:Hid (¬N=0→∀V,Calls Tryz.prog 20 #[.agg #[.string ⟨(rd (suK f a N)).1.toArray⟩,.string ⟨(rd (suK f a N)).2.toArray⟩],.agg #[.string ⟨(wd (N:Int)).toArray⟩,.string ⟨#[49]⟩]] V (GiveRB V (rd (suK f a N / (N:Rat)),true))):=zh fun h V=>by
  have hq:ShQ (N:Rat):=nat_sh hN60;have k:=ediv (sh N (Nat.le_refl _)).1 hq V (fun e=>h (by
   have:=congrArg Rat.num e;rw[Rat.num_natCast]at this;have:(N:Int)=0:=this;omega))
  rw[Ev.rd_nat]at k;exact k
 clear cp hz sh shf hf hD;go_enter Tryz.func36,Tryz.ntmps36;go_wp2_with fail;obtain⟨W,hW,BW,sW,k0,k1,k2,k3,k4,k5,hr⟩:=box6r w (.int .i64 op) (.string ⟨nn.toArray⟩) (.string ⟨ee.toArray⟩) (.string ⟨s.toArray⟩) (.int .i64 a) (.int .i64 b) (.string ⟨#[]⟩) (.string ⟨#[]⟩) 55 28;rw[hW];clear hW;have b0:=Below.refl W.heap.size W;have hB:Hid (W.heap.size≤W.heap.size):=zh (Nat.le_refl _);replace k0:=fun v (h:Below W.heap.size W v)=>k0 v (h.mono (by omega));replace k1:=fun v (h:Below W.heap.size W v)=>k1 v (h.mono (by omega));replace k2:=fun v (h:Below W.heap.size W v)=>k2 v (h.mono (by omega));replace k3:=fun v (h:Below W.heap.size W v)=>k3 v (h.mono (by omega));replace k4:=fun v (h:Below W.heap.size W v)=>k4 v (h.mono (by omega));replace k5:=fun v (h:Below W.heap.size W v)=>k5 v (h.mono (by omega));have HR:=zh hr;clear hr sW;go_wp2_with fail;rw[show (op==0)=false from beq_false_of_ne h0]
 go_cut [5,6,7] from 18 to 30 (fun t5 t6 t7 wx=>(∃x1 x2 x3,t5=.pointer (some ⟨x1,0,none⟩)∧t6=.pointer (some ⟨x2,0,none⟩)∧t7=.pointer (some ⟨x3,0,none⟩)∧Hid ((Zc x1 (.string ⟨#[48]⟩) (.string ⟨#[49]⟩) wx∧Zc x2 (.string ⟨(rd (f a)).1.toArray⟩) (.string ⟨(rd (f a)).2.toArray⟩) wx∧Zc x3 (.string ⟨(rd (f a)).1.toArray⟩) (.string ⟨(rd (f a)).2.toArray⟩) wx)∧(x1≠x2∧x1≠x3∧x2≠x3)∧(W.heap.size≤x1∧W.heap.size≤x2∧W.heap.size≤x3)))∧Below W.heap.size W wx)
 case first =>
  refine tkG (S:=fun w'=>Below W.heap.size W w') (b0.drew) (fun hH0=>?_);refine sch_in [1,2,3,4,5,7,8,9,10,11] ?_
  iterate 10 (refine scY ?_;try simp only[Act.put,qA,qB,qC,qD,qE,qF])
  refine sch_out ?_;refine wpAnyH_at (Jf W.heap.size (.agg #[.string ⟨#[48]⟩,.string ⟨#[49]⟩]) (.agg #[.string ⟨(rd (f a)).1.toArray⟩,.string ⟨(rd (f a)).2.toArray⟩])) ⟨0,none,none,none,by decide,by decide,by kernel_rfl,by kernel_rfl,lay3_none⟩ hH0 ?_;clear hH0;intro n l a' w1 hJ hS;obtain⟨k,o1,o2,o3,hk,hn,rfl,rfl,ht⟩:=hJ;have hS':Below W.heap.size W w1:=hS;by_cases hd:k=3∧nO o1=1∧nO o2=1∧nO o3=1
  ·refine .inl ?_;obtain⟨rfl,e1,e2,e3⟩:=hd
   cases o1 with
   | none=>cases e1
   | some x1 =>
   cases o2 with
   | none=>cases e2
   | some x2 =>
   cases o3 with
   | none=>cases e3
   | some x3 =>
   obtain rfl:n=3:=by simp only[nO]at hn;omega
   have y1:=ht.z x1 (.inl rfl);have y2:=ht.z x2 (.inr (.inl rfl));have y3:=ht.z x3 (.inr (.inr rfl))
   have n12:x1≠x2:=fun e=>ht.n12 x1 rfl (by rw[e]);have n13:x1≠x3:=fun e=>ht.n13 x1 rfl (by rw[e]);have n23:x2≠x3:=fun e=>ht.n23 x2 rfl (by rw[e])
   have HN:=zh (And.intro n12 (And.intro n13 n23));have HY:=zh (And.intro y1.2 (And.intro y2.2 y3.2))
   have Y2:=zh y2.1;have Y3:=zh y3.1
   have z0:=y1.1.c0;have z1:=y1.1.c1;have z2:=y1.1.f0;have z3:=y1.1.f1
   have Y1:=zh y1.1;clear e1 e2 e3 hn hk ht n12 n13 n23 y1 y2 y3 hS';have v0:∀q,vK 3 0 q=q:=fun _=>rfl;have v1:∀q,vK 3 1 q=q:=fun _=>rfl;have v2:∀q,vK 3 2 q=q:=fun _=>rfl;have v3:∀q,vO (some q)=.pointer (some ⟨q,0,none⟩):=fun _=>rfl;simp only[Af,v0,v1,v2,v3,Act.put]
   try simp only[Act.put,qA,qB,qC,qD,qE,qF]
   clear v0 v1 v2 v3;refine tkR 16 (fun K hK=>?_)
   go_simp
   refine hK.out _ _ (put2 hS HY.out.1 _ _) (fun hS1=>?_);clear hK z0 z1 z2 z3 hS
   try simp only[Act.put,qA,qB,qC,qD,qE,qF]
   have k2:=zc_far (fun e=>HN.out.1 e.symm) Y2.out (s:=(.string ⟨#[48]⟩)) (t:=(.string ⟨#[49]⟩));have k3:=zc_far (fun e=>HN.out.2.1 e.symm) Y3.out (s:=(.string ⟨#[48]⟩)) (t:=(.string ⟨#[49]⟩))
   have k1:=zc_put Y1.out (x:=(.string ⟨#[48]⟩)) (y:=(.string ⟨#[49]⟩));generalize (w1.setCell ⟨x1,0,none⟩ (.string ⟨#[48]⟩)).setCell ⟨x1,1,none⟩ (.string ⟨#[49]⟩)=w2 at *;replace Y1:=zh k1;replace Y2:=zh k2;replace Y3:=zh k3;clear k1 k2 k3;have z0:=Y2.out.c0;have z1:=Y2.out.c1;have z2:=Y2.out.f0;have z3:=Y2.out.f1
   refine tkR 17 (fun K hK=>?_)
   go_simp
   refine hK.out _ _ (put2 hS1 HY.out.2.1 _ _) (fun hS2=>?_);clear hK z0 z1 z2 z3 hS1
   try simp only[Act.put,qA,qB,qC,qD,qE,qF]
   have k1:=zc_far (HN.out.1) Y1.out (s:=(.string ⟨(rd (f a)).1.toArray⟩)) (t:=(.string ⟨(rd (f a)).2.toArray⟩));have k3:=zc_far (fun e=>HN.out.2.2 e.symm) Y3.out (s:=(.string ⟨(rd (f a)).1.toArray⟩)) (t:=(.string ⟨(rd (f a)).2.toArray⟩))
   have k2:=zc_put Y2.out (x:=(.string ⟨(rd (f a)).1.toArray⟩)) (y:=(.string ⟨(rd (f a)).2.toArray⟩));generalize (w2.setCell ⟨x2,0,none⟩ (.string ⟨(rd (f a)).1.toArray⟩)).setCell ⟨x2,1,none⟩ (.string ⟨(rd (f a)).2.toArray⟩)=w3 at *;replace Y1:=zh k1;replace Y2:=zh k2;replace Y3:=zh k3;clear k1 k2 k3;have z0:=Y3.out.c0;have z1:=Y3.out.c1;have z2:=Y3.out.f0;have z3:=Y3.out.f1
   refine tkR 18 (fun K hK=>?_)
   go_simp
   refine hK.out _ _ (put2 hS2 HY.out.2.2 _ _) (fun hS3=>?_);clear hK z0 z1 z2 z3 hS2
   try simp only[Act.put,qA,qB,qC,qD,qE,qF]
   have k1:=zc_far (HN.out.2.1) Y1.out (s:=(.string ⟨(rd (f a)).1.toArray⟩)) (t:=(.string ⟨(rd (f a)).2.toArray⟩));have k2:=zc_far (HN.out.2.2) Y2.out (s:=(.string ⟨(rd (f a)).1.toArray⟩)) (t:=(.string ⟨(rd (f a)).2.toArray⟩))
   have k3:=zc_put Y3.out (x:=(.string ⟨(rd (f a)).1.toArray⟩)) (y:=(.string ⟨(rd (f a)).2.toArray⟩));generalize (w3.setCell ⟨x3,0,none⟩ (.string ⟨(rd (f a)).1.toArray⟩)).setCell ⟨x3,1,none⟩ (.string ⟨(rd (f a)).2.toArray⟩)=w4 at *;replace Y1:=zh k1;replace Y2:=zh k2;replace Y3:=zh k3;clear k1 k2 k3;refine tkD ?_;go_wp2_with fail
   go_meet
   exact⟨⟨x1,x2,x3,rfl,rfl,rfl,zh ⟨⟨Y1.out,Y2.out,Y3.out⟩,HN.out,HY.out⟩⟩,hS3⟩
  ·refine .inr ?_;obtain⟨m,rfl⟩:∃m,n=m+1:=⟨n-1,by cases o1<;>cases o2<;>cases o3<;>simp only[nO]at hn<;>omega⟩;refine⟨m,rfl,phase_step (fun i=>(i==0&&k==0)||(i==6&&k==1)||(i==12&&k==2)||(i==13&&o1.isNone)||(i==14&&o2.isNone)||(i==15&&o3.isNone)) ?_ ?_⟩
   ·rcases(show k=0∨k=1∨k=2∨k=3 by omega) with rfl|rfl|rfl|rfl<;>cases o1<;>cases o2<;>cases o3<;>first|exact absurd ⟨rfl,rfl,rfl,rfl⟩ hd|kernel_rfl
   ·intro i hi;have hi:(((((i=0∧k=0)∨(i=6∧k=1))∨(i=12∧k=2))∨(i=13∧o1=none))∨(i=14∧o2=none))∨(i=15∧o3=none):=by simpa using hi
    clear hd;rcases hi with ((((⟨rfl,rfl⟩|⟨rfl,rfl⟩)|⟨rfl,rfl⟩)|⟨rfl,rfl⟩)|⟨rfl,rfl⟩)|⟨rfl,rfl⟩
    ·refine wpOp_step rfl (fun K hK0=>?_);have hK:=zh hK0;clear hK0
     try simp only[Af,Act.put,qA,qB,qC,qD,qE,qF]
     go_simp
     refine(held (W:=W) hB.out (kt_f 0 [48] (by decide +kernel) (by decide) (by decide) _) hS').mono ?_;rintro e w2 ⟨rfl,hb,hw⟩
     (try go_wp2_with fail)
     exact hK.out _ _ ⟨hw,1,o1,o2,o3,by omega,by omega,rfl,rfl,ht.below hb⟩
    ·refine wpOp_step rfl (fun K hK0=>?_);have hK:=zh hK0;clear hK0
     try simp only[Af,Act.put,qA,qB,qC,qD,qE,qF]
     go_simp
     refine(held (W:=W) hB.out (CP.out _ (Below.more BW hS') _) hS').mono ?_;rintro e w2 ⟨rfl,hb,hw⟩
     (try go_wp2_with fail)
     exact hK.out _ _ ⟨hw,2,o1,o2,o3,by omega,by omega,rfl,rfl,ht.below hb⟩
    ·refine wpOp_step rfl (fun K hK0=>?_);have hK:=zh hK0;clear hK0
     try simp only[Af,Act.put,qA,qB,qC,qD,qE,qF]
     go_simp
     refine(held (W:=W) hB.out (CP.out _ (Below.more BW hS') _) hS').mono ?_;rintro e w2 ⟨rfl,hb,hw⟩
     (try go_wp2_with fail)
     exact hK.out _ _ ⟨hw,3,o1,o2,o3,by omega,by omega,rfl,rfl,ht.below hb⟩
    ·refine wpOp_step rfl (fun K hK0=>?_);have hK:=zh hK0;clear hK0
     try simp only[Af,Act.put,qA,qB,qC,qD,qE,qF]
     go_simp
     exact hK.out _ _ ⟨Below.alloc hS' (Below.size hS') _,k,some w1.heap.size,o2,o3,hk,by simp only[nO]at hn ⊢;omega,rfl,rfl,ht.put1 (Below.size hS') _⟩
    ·refine wpOp_step rfl (fun K hK0=>?_);have hK:=zh hK0;clear hK0
     try simp only[Af,Act.put,qA,qB,qC,qD,qE,qF]
     go_simp
     exact hK.out _ _ ⟨Below.alloc hS' (Below.size hS') _,k,o1,some w1.heap.size,o3,hk,by simp only[nO]at hn ⊢;omega,rfl,rfl,ht.put2 (Below.size hS') _⟩
    ·refine wpOp_step rfl (fun K hK0=>?_);have hK:=zh hK0;clear hK0
     try simp only[Af,Act.put,qA,qB,qC,qD,qE,qF]
     go_simp
     exact hK.out _ _ ⟨Below.alloc hS' (Below.size hS') _,k,o1,o2,some w1.heap.size,hk,by simp only[nO]at hn ⊢;omega,rfl,rfl,ht.put3 (Below.size hS') _⟩
 case rest =>
  obtain⟨⟨bs,bh,bl,rfl,rfl,rfl,HX⟩,hcc⟩:=hcut;have HN:=zh HX.out.2.1;have HG:=zh HX.out.2.2
  have e0:rd (suK f a 0)=([48],[49]):=by show rd (0:Rat)=_;decide +kernel
  have HA0:Hid (Acc f a bs bh bl 0 0 0 wc):=zh ⟨by rw[e0];exact HX.out.1.1,HX.out.1.2.1,HX.out.1.2.2⟩;clear HX e0;go_wp2_with fail
  go_loopw [8,9] (fun mv dv wr=>∃k:Nat,k≤N∧mv=.int .i64 k∧dv=.int .i64 (a+k)∧Below W.heap.size W wr∧Hid (Acc f a bs bh bl k k k wr)) (fun mv _ _=>N-(intOf mv).toNat)
  case atStart=>exact⟨0,Nat.zero_le _,rfl,by simp,hcc,HA0⟩
  case round =>
   clear HA0 hcc;obtain⟨k,hk,rfl,rfl,hw,HI⟩:=hrel;by_cases hlt:k<N
   ·have hle:a+(k:Int)≤z:=by omega
    have hw1:IntKind.i64.wrap (a+(k:Int)+1)=a+(k:Int)+1:=IntWalk.i64_in _ (by omega);have hw2:IntKind.i64.wrap ((k:Int)+1)=(k:Int)+1:=IntWalk.i64_in _ (by omega);go_wp2_with fail;refine(CL.out _).mono ?_;rintro e0 w1 ⟨rfl,b⟩;have hb:=Below.more hw b;have hA:=HI.out.below b;clear b hw HI;go_wp2_with fail;refine(CP.out _ (Below.more BW hb) _).mono ?_;rintro e0 w2 ⟨rfl,b⟩;have hA2:=hA.below b;have hb2:=Below.more hb b;clear b hA hb;have s0:=fun v (h:Below w2.heap.size w2 v)=>(hA2.s.below h).c0;have s1:=fun v (h:Below w2.heap.size w2 v)=>(hA2.s.below h).c1;have b2:=Below.refl w2.heap.size w2;have ba:=fun x=>Below.alloc b2 (Nat.le_refl _) x;go_wp2_with fail;obtain⟨x1,hU,bU,s9⟩:∃U,w2.alloc (.cells #[.string ⟨(rd (f (a+(k:Int)))).1.toArray⟩,.string ⟨(rd (f (a+(k:Int)))).2.toArray⟩] 28)=U∧Below w2.heap.size w2 U∧Zc w2.heap.size (.string ⟨(rd (f (a+(k:Int)))).1.toArray⟩) (.string ⟨(rd (f (a+(k:Int)))).2.toArray⟩) U:=⟨_,rfl,Below.alloc (Below.refl _ _) (Nat.le_refl _) _,zc_new _ _ _ _⟩;rw[hU];clear hU ba b2 s0 s1;have HNP:Hid (w2.heap.size≠bs∧w2.heap.size≠bh∧w2.heap.size≠bl):=zh ⟨fun e=>absurd hA2.s.lt (by omega),fun e=>absurd hA2.h.lt (by omega),fun e=>absurd hA2.l.lt (by omega)⟩;have HA:=zh (hA2.below bU);have HP:=zh s9;have hb:=Below.more hb2 bU;clear hA2 hb2 bU s9;generalize w2.heap.size=bp at *;refine(CA.out k hlt _).mono ?_;rintro e1 y1 ⟨rfl,b⟩;have hq:=HA.out.below b;have hp:=HP.out.below b;have hb9:=Below.more hb b;have z0:=hq.s.c0;have z1:=hq.s.c1;have z2:=hq.s.f0;have z3:=hq.s.f1
    clear b
    go_upto_region 10 with fail
    have hA:Acc f a bs bh bl (k+1) k k ((y1.setCell ⟨bs,0,none⟩ (.string ⟨(rd (suK f a (k+1))).1.toArray⟩)).setCell ⟨bs,1,none⟩ (.string ⟨(rd (suK f a (k+1))).2.toArray⟩)):=⟨zc_put hq.s,zc_far (fun e=>HN.out.1 e.symm) hq.h,zc_far (fun e=>HN.out.2.1 e.symm) hq.l⟩;have hP:=zc_far (HNP.out.1) hp (s:=.string ⟨(rd (suK f a (k+1))).1.toArray⟩) (t:=.string ⟨(rd (suK f a (k+1))).2.toArray⟩);have hb':Below W.heap.size W ((y1.setCell ⟨bs,0,none⟩ (.string ⟨(rd (suK f a (k+1))).1.toArray⟩)).setCell ⟨bs,1,none⟩ (.string ⟨(rd (suK f a (k+1))).2.toArray⟩)):=put2 hb9 HG.out.1 _ _;generalize (y1.setCell ⟨bs,0,none⟩ (.string ⟨(rd (suK f a (k+1))).1.toArray⟩)).setCell ⟨bs,1,none⟩ (.string ⟨(rd (suK f a (k+1))).2.toArray⟩)=x2 at *;clear z0 z1 z2 z3 hq hp hb hb9;have HA:=zh hA;have HP:=zh hP
    have hb:=hb';clear hA hP hb';have q0:=HA.out.h.c0;have q1:=HA.out.h.c1;have q2:=HP.out.c0;have q3:=HP.out.c1
    go_wp2_with fail;clear q0 q1 q2 q3;refine(CH.out k hlt _).mono ?_;rintro e1 y2 ⟨rfl,b⟩;have hq:=HA.out.below b;have hp:=HP.out.below b;have hb9:=Below.more hb b;have z0:=hq.h.c0;have z1:=hq.h.c1;have z2:=hq.h.f0;have z3:=hq.h.f1
    clear b
    go_upto_region 11 with fail
    have hA:Acc f a bs bh bl (k+1) (k+1) k ((y2.setCell ⟨bh,0,none⟩ (.string ⟨(rd (hiK f a (k+1))).1.toArray⟩)).setCell ⟨bh,1,none⟩ (.string ⟨(rd (hiK f a (k+1))).2.toArray⟩)):=⟨zc_far (HN.out.1) hq.s,zc_put hq.h,zc_far (fun e=>HN.out.2.2 e.symm) hq.l⟩;have hP:=zc_far (HNP.out.2.1) hp (s:=.string ⟨(rd (hiK f a (k+1))).1.toArray⟩) (t:=.string ⟨(rd (hiK f a (k+1))).2.toArray⟩);have hb':Below W.heap.size W ((y2.setCell ⟨bh,0,none⟩ (.string ⟨(rd (hiK f a (k+1))).1.toArray⟩)).setCell ⟨bh,1,none⟩ (.string ⟨(rd (hiK f a (k+1))).2.toArray⟩)):=put2 hb9 HG.out.2.1 _ _;generalize (y2.setCell ⟨bh,0,none⟩ (.string ⟨(rd (hiK f a (k+1))).1.toArray⟩)).setCell ⟨bh,1,none⟩ (.string ⟨(rd (hiK f a (k+1))).2.toArray⟩)=x3 at *;clear z0 z1 z2 z3 hq hp hb hb9;have HA:=zh hA;have HP:=zh hP
    have hb:=hb';clear hA hP hb';have q0:=HA.out.l.c0;have q1:=HA.out.l.c1;have q2:=HP.out.c0;have q3:=HP.out.c1
    go_wp2_with fail;clear q0 q1 q2 q3;refine(CO.out k hlt _).mono ?_;rintro e1 y3 ⟨rfl,b⟩;have hq:=HA.out.below b;have hp:=HP.out.below b;have hb9:=Below.more hb b;have z0:=hq.l.c0;have z1:=hq.l.c1;have z2:=hq.l.f0;have z3:=hq.l.f1
    clear b
    go_upto_region 12 with fail
    have hA:Acc f a bs bh bl (k+1) (k+1) (k+1) ((y3.setCell ⟨bl,0,none⟩ (.string ⟨(rd (loK f a (k+1))).1.toArray⟩)).setCell ⟨bl,1,none⟩ (.string ⟨(rd (loK f a (k+1))).2.toArray⟩)):=⟨zc_far (HN.out.2.1) hq.s,zc_far (HN.out.2.2) hq.h,zc_put hq.l⟩;have hP:=zc_far (HNP.out.2.2) hp (s:=.string ⟨(rd (loK f a (k+1))).1.toArray⟩) (t:=.string ⟨(rd (loK f a (k+1))).2.toArray⟩);have hb':Below W.heap.size W ((y3.setCell ⟨bl,0,none⟩ (.string ⟨(rd (loK f a (k+1))).1.toArray⟩)).setCell ⟨bl,1,none⟩ (.string ⟨(rd (loK f a (k+1))).2.toArray⟩)):=put2 hb9 HG.out.2.2 _ _;generalize (y3.setCell ⟨bl,0,none⟩ (.string ⟨(rd (loK f a (k+1))).1.toArray⟩)).setCell ⟨bl,1,none⟩ (.string ⟨(rd (loK f a (k+1))).2.toArray⟩)=x4 at *;clear z0 z1 z2 z3 hq hp hb hb9;have HA:=zh hA;have HP:=zh hP
    have hb:=hb';clear hA hP hb';go_wp2_with fail;go_roundw
    case rel=>exact⟨k+1,hlt,by go_num,by go_num,hb,HA⟩
    case measure=>simp[intOf];omega
   ·obtain rfl:k=N:=by omega
    have hnl:¬a+(k:Int)≤z:=by omega
    go_wp2_with fail;refine(CL.out _).mono ?_;rintro e0 w1 ⟨rfl,b⟩;have hb:=Below.more hw b;have hA:=HI.out.below b;clear b hw HI;have HB':=zh (Below.more BW hb);have hr1:=HR.out.below (hb.mono (Nat.le_refl _));have z0:=hr1.c0;have z1:=hr1.c1;have z2:=hr1.f0;have z3:=hr1.f1
    by_cases h3:op=3
    ·have HV:Hid (leafR op (f a) (psF f a k)=rd (hiK f a k)):=zh (by unfold leafR;rw[if_pos h3];rfl);have q0:=hA.h.c0;have q1:=hA.h.c1
     go_wp2_with fail;refine bodyPost_ret (v:=.agg #[.string ⟨(rd (hiK f a k)).1.toArray⟩,.string ⟨(rd (hiK f a k)).2.toArray⟩]) (by simp[results,Tryz.results36,go_sem, *]) rfl ⟨by rw[HV.out],put2 HB'.out (Nat.le_succ _) _ _⟩
    ·by_cases h4:op=4
     ·have HV:Hid (leafR op (f a) (psF f a k)=rd (loK f a k)):=zh (by unfold leafR;rw[if_neg h3,if_pos h4];rfl);have q0:=hA.l.c0;have q1:=hA.l.c1
      go_wp2_with fail;refine bodyPost_ret (v:=.agg #[.string ⟨(rd (loK f a k)).1.toArray⟩,.string ⟨(rd (loK f a k)).2.toArray⟩]) (by simp[results,Tryz.results36,go_sem, *]) rfl ⟨by rw[HV.out],put2 HB'.out (Nat.le_succ _) _ _⟩
     ·have s0:=fun v (h:Below w1.heap.size w1 v)=>(hA.s.below h).c0;have s1:=fun v (h:Below w1.heap.size w1 v)=>(hA.s.below h).c1;have r0:=fun v (h:Below w1.heap.size w1 v)=>(hr1.below h).c0;have r1:=fun v (h:Below w1.heap.size w1 v)=>(hr1.below h).c1;have r2:=fun v (h:Below w1.heap.size w1 v)=>(hr1.below h).f0;have r3:=fun v (h:Below w1.heap.size w1 v)=>(hr1.below h).f1;have bb0:=Below.refl w1.heap.size w1;have q0:=hA.s.c0;have q1:=hA.s.c1
      have hB1:Hid (w1.heap.size≤w1.heap.size):=zh (Nat.le_refl _);have COF:=zh (fun V=>rqof_any (k:Int) V (by omega) (by omega));by_cases hk0:k=0
      ·have HV:Hid (leafR op (f a) (psF f a k)=([],[])):=zh (by unfold leafR;rw[if_neg h3,if_neg h4,if_pos ((pF_len ..).trans hk0)]);have CDV:=zh (fun V=>CDZ.out hk0 V);clear hA hr1 hk0;go_wp2_with fail;clear hB;have hB:=hB1
       first|(go_region_held3 (fun w'=>Below w1.heap.size w1 w')
           (first|(exact bb0.drew)|(with_reducible assumption)|(exact Below.alloc (by with_reducible assumption) (Nat.le_trans hB.out (Below.size (by with_reducible assumption))) _)|(exact put2 (by with_reducible assumption) (Nat.le_refl _) _ _)|(exact put2 (by with_reducible assumption) hB.out _ _)|(exact put2 (by with_reducible assumption) (Nat.le_trans hB.out (Below.size (by with_reducible assumption))) _ _))
           (first|(go_at_call 27;(with_reducible refine(held (W:=w1) hB.out (COF.out _) (by assumption)).mono ?_);rintro e w'' ⟨rfl,hb,hw⟩;(first|(have hz:=zc_made0 hb)|(have hz:=zc_made hb)|skip);(try have hz:=Zc.below (by assumption) hb);(try (have z0:=hz.c0;have z1:=hz.c1;have z2:=hz.f0;have z3:=hz.f1)))|(go_at_call 20;(with_reducible refine(held (W:=w1) hB.out (CDV.out _) (by assumption)).mono ?_);rintro e w'' ⟨rfl,hb,hw⟩;(first|(have hz:=zc_made0 hb)|(have hz:=zc_made hb)|skip);(try have hz:=Zc.below (by assumption) hb);(try (have z0:=hz.c0;have z1:=hz.c1;have z2:=hz.f0;have z3:=hz.f1)))))|fail
       all_goals (go_wp2_with fail)
       all_goals (refine bodyPost_ret (v:=.agg #[.string ⟨#[]⟩,.string ⟨#[]⟩]) (by simp[results,Tryz.results36,go_sem, *]) rfl ⟨by rw[HV.out],put2 (Below.more HB'.out (by with_reducible assumption)) (Nat.le_succ _) _ _⟩)
      ·have HV:Hid (leafR op (f a) (psF f a k)=rd (suK f a k / (k:Rat))):=zh (by unfold leafR;rw[if_neg h3,if_neg h4,if_neg (by rw[pF_len];exact hk0),pF_len];rfl);have CDV:=zh (fun V=>CDN.out hk0 V);clear hA hr1 hk0;go_wp2_with fail;clear hB;have hB:=hB1
       first|(go_region_held3 (fun w'=>Below w1.heap.size w1 w')
           (first|(exact bb0.drew)|(with_reducible assumption)|(exact Below.alloc (by with_reducible assumption) (Nat.le_trans hB.out (Below.size (by with_reducible assumption))) _)|(exact put2 (by with_reducible assumption) (Nat.le_refl _) _ _)|(exact put2 (by with_reducible assumption) hB.out _ _)|(exact put2 (by with_reducible assumption) (Nat.le_trans hB.out (Below.size (by with_reducible assumption))) _ _))
           (first|(go_at_call 27;(with_reducible refine(held (W:=w1) hB.out (COF.out _) (by assumption)).mono ?_);rintro e w'' ⟨rfl,hb,hw⟩;(first|(have hz:=zc_made0 hb)|(have hz:=zc_made hb)|skip);(try have hz:=Zc.below (by assumption) hb);(try (have z0:=hz.c0;have z1:=hz.c1;have z2:=hz.f0;have z3:=hz.f1)))|(go_at_call 20;(with_reducible refine(held (W:=w1) hB.out (CDV.out _) (by assumption)).mono ?_);rintro e w'' ⟨rfl,hb,hw⟩;(first|(have hz:=zc_made0 hb)|(have hz:=zc_made hb)|skip);(try have hz:=Zc.below (by assumption) hb);(try (have z0:=hz.c0;have z1:=hz.c1;have z2:=hz.f0;have z3:=hz.f1)))))|fail
       all_goals (go_wp2_with fail)
       all_goals (refine bodyPost_ret (v:=.agg #[.string ⟨(rd (suK f a k / (k:Rat))).1.toArray⟩,.string ⟨(rd (suK f a k / (k:Rat))).2.toArray⟩]) (by simp[results,Tryz.results36,go_sem, *]) rfl ⟨by rw[HV.out],put2 (Below.more HB'.out (by with_reducible assumption)) (Nat.le_succ _) _ _⟩)
end Go.Proofs.YtghioekjghmdaaaGreatDoor
