/- Own work. -/
import Derived.Test.YthgopcnagecbaaaGreatDoorAllPk1
set_option linter.unusedSimpArgs false
set_option linter.unusedVariables false
set_option maxHeartbeats 4000000
set_option maxRecDepth 100000
namespace Go.Proofs.YthgopcnagecbaaaGreatDoor
open Go.RowKit
open Pk (Part Pack mayP valueP keepsP ofP)
open Pk (FromA asset_less own_get)
theorem ofc_any(a:List UInt8)(d:Int)(n e s:List UInt8)(w:World):Calls Tryz.prog 67 #[.agg #[.string ⟨a.toArray⟩,.int .i64 d,.string ⟨n.toArray⟩,.string ⟨e.toArray⟩],.string ⟨s.toArray⟩] w (GiveI w (Lib.compareBytes a s)):=by
 have C1:=zh (fun w=>scmp_any a s w);go_enter Tryz.func67,Tryz.ntmps67;go_wp2_with fail;obtain⟨U1,hU,bU,s1,kx⟩:=layN (Below.refl w.heap.size w) #[.string ⟨a.toArray⟩,.int .i64 d,.string ⟨n.toArray⟩,.string ⟨e.toArray⟩] 47;rw[hU];clear hU s1;have qx:=kx 0 _ rfl U1 (Below.refl _ _);clear kx;go_wp2_with fail;refine(C1.out _).mono ?_;rintro e w3 ⟨rfl,b⟩;go_wp2_with fail;go_ret;exact⟨rfl,Below.more bU b⟩
def GiveFrom(w:World)(l:List Fx.Fix)(s:List UInt8)(e:Ending)(w':World):Prop:=(∃ (i:Nat) (b:Bool),e=.returned (.tuple #[.int .i64 i,.bool b])∧FromA l s i)∧Below w.heap.size w w'
theorem cmp_less(a b:List UInt8):Lib.compareBytes a b<0↔Op.bytesLess a b=true:=by
 rcases less_cases a b with h|h|h
 ·rw[cmp_lt h,h];simp
 ·rw[h,cmp_self,less_irrefl];simp
 ·rw[cmp_gt h];have:Op.bytesLess a b=false:=by
   cases e:Op.bytesLess a b with
   | false=>rfl
   | true=>have:=less_trans e h;rw[less_irrefl]at this;cases this
  rw[this];simp
theorem fx_in{w:World}{p q:Option Addr}{c i:Nat}{m:List Fx.Fix}(h:RowsG encFx 4 w (if c=i then p else q) m)(hc:c=i):RowsG encFx 4 w p m:=by
 rw[if_pos hc]at h;exact h
theorem fx_map{w:World}{p q:Option Addr}{c i:Nat}{m:List Fx.Fix}(h:RowsG encFx 4 w (if c=i then p else q) m)(h0:c=i→m=[]):RowsG encFx 4 w q m:=by
 by_cases hc:c=i
 ·rw[h0 hc];exact RowsG.nil _ _
 ·rw[if_neg hc]at h;exact h
theorem rows_dropS{α:Type}{enc:α→List Value}{k:Nat}{w:World}{b o:Nat}{l:List α}(h:RowsG enc k w (some ⟨b,o,none⟩) l)(i:Nat):RowsG enc k w (some ⟨b,o+i*k,none⟩) (l.drop i):=fun j x hx=>by
 rw[List.getElem?_drop]at hx;obtain⟨b',o',hp,hl,c⟩:=h (i+j) x hx
 cases hp
 rw[Nat.add_mul,← Nat.add_assoc]at c;exact⟨b,o+i*k,rfl,hl,c⟩
theorem bsearch_any(p:Option Addr)(c:Nat)(l:List Fx.Fix)(s:List UInt8)(w:World)(hc:l.length≤c)(hl:l.length≤1000000)(hp:(l.Pairwise fun x y=>Fx.lessF x.1 y.1=true))(h:Fxs w p l) :
  Calls Tryz.prog 66 #[.slice p l.length c,.string ⟨s.toArray⟩,.func (.func 67) #[] #[]] w (GiveFrom w l s):=by
 have HS:=zh h;have HP:=zh hp
 clear h hp;go_enter Tryz.func66,Tryz.ntmps66
 go_wp2
 go_loopw [9,10] (fun x y wr=>∃lo hi:Nat,x=.int .i64 lo∧y=.int .i64 hi∧lo≤hi∧hi≤l.length∧Hid (∀t x,t<lo→l[t]?=some x→Op.bytesLess x.1.1 s=true)∧Hid (∀t x,hi≤t→l[t]?=some x→Op.bytesLess x.1.1 s=false)∧Below w.heap.size w wr) (fun x y _=>(intOf y).toNat-(intOf x).toNat)
 case atStart=>exact⟨0,l.length,rfl,rfl,Nat.zero_le _,Nat.le_refl _,fun t _ h=>absurd h (Nat.not_lt_zero t),fun t x h e=>absurd (List.getElem?_eq_some_iff.1 e).1 (by omega),Below.refl _ _⟩
 case round =>
  obtain⟨lo,hi,rfl,rfl,hlh,hil,HLo,HHi,hw⟩:=hrel;by_cases hlt:lo<hi
  ·obtain⟨m,hm⟩:∃m,m=(lo+hi) / 2:=⟨_,rfl⟩;have hmi:((lo:Int)+(hi:Int)) / 2=(m:Int):=by omega
   have hmn:(lo+hi) / 2=m:=hm.symm;have hml:m<l.length:=by omega
   have hm1:lo≤m:=by omega
   have hm2:m<hi:=by omega
   clear hm;obtain⟨⟨⟨a',d'⟩,⟨n',e'⟩⟩,hx⟩:∃x,l[m]?=some x:=⟨_,List.getElem?_eq_getElem (by omega)⟩;obtain⟨b,o,rfl,k0,k1,k2,k3⟩:=fx_rule (HS.out.below hw) hx;have co:=fun w=>ofc_any a' d' n' e' s w;by_cases hq:Lib.compareBytes a' s<0
   ·have HT:Hid (∀t x,t<m+1→l[t]?=some x→Op.bytesLess x.1.1 s=true):=zh fun t y ht hy=>asset_less HP.out (show t≤m by omega) hy hx ((cmp_less _ _).1 hq);generalize Lib.compareBytes a' s=q at *;have CO:=zh co;have HW:=zh hw;have b0:=Below.refl wr.heap.size wr;have j0:=k0 wr b0;have j1:=k1 wr b0;have j2:=k2 wr b0;have j3:=k3 wr b0
    clear co hx hw;go_wp2_with fail;refine(CO.out _).mono ?_;rintro e1 w1 ⟨rfl,b1⟩;go_wp2_with fail;go_roundw
    case rel=>exact⟨m+1,hi,by go_num,rfl,by omega,hil,HT.out,HHi.out,Below.more HW.out b1⟩
    case measure=>simp[intOf];omega
   ·have HT:Hid (∀t x,m≤t→l[t]?=some x→Op.bytesLess x.1.1 s=false):=zh fun t y ht hy=>by
     cases e:Op.bytesLess y.1.1 s with
     | false=>rfl
     | true=>exact absurd ((cmp_less _ _).2 (asset_less HP.out ht hx hy e)) hq
    generalize Lib.compareBytes a' s=q at *;have CO:=zh co;have HW:=zh hw;have b0:=Below.refl wr.heap.size wr;have j0:=k0 wr b0;have j1:=k1 wr b0;have j2:=k2 wr b0;have j3:=k3 wr b0
    clear co hx hw;go_wp2_with fail;refine(CO.out _).mono ?_;rintro e1 w1 ⟨rfl,b1⟩;go_wp2_with fail;go_roundw
    case rel=>exact⟨lo,m,rfl,rfl,hm1,by omega,HLo.out,HT.out,Below.more HW.out b1⟩
    case measure=>simp[intOf];omega
  ·obtain rfl:hi=lo:=by omega
   have HF:Hid (FromA l s hi):=zh ⟨hil,HLo.out,HHi.out⟩;by_cases hn:hi<l.length
   ·obtain⟨⟨⟨a',d'⟩,⟨n',e'⟩⟩,hx⟩:∃x,l[hi]?=some x:=⟨_,List.getElem?_eq_getElem (by omega)⟩;obtain⟨b,o,rfl,k0,k1,k2,k3⟩:=fx_rule (HS.out.below hw) hx;have co:=fun w=>ofc_any a' d' n' e' s w;generalize Lib.compareBytes a' s=q at *;have CO:=zh co;have HW:=zh hw;have b0:=Below.refl wr.heap.size wr;have j0:=k0 wr b0;have j1:=k1 wr b0;have j2:=k2 wr b0;have j3:=k3 wr b0
    clear co hx hw;go_wp2_with fail;refine(CO.out _).mono ?_;rintro e1 w1 ⟨rfl,b1⟩;go_wp2_with fail
    go_ret2
    exact⟨⟨hi,_,rfl,HF.out⟩,Below.more HW.out b1⟩
   ·go_wp2_with fail
    go_ret2
    exact⟨⟨hi,_,rfl,HF.out⟩,hw⟩
def GiveOwn(w:World)(l:List Fx.Fix)(s:List UInt8)(e:Ending)(w':World):Prop:=(∃q c m,e=.returned (.slice q m.length c)∧m.length≤c∧m.length≤l.length∧(∀x∈m,x∈l)∧Fxs w' q m∧∀d,Fx.getF m (s,d)=Fx.getF l (s,d))∧Below w.heap.size w w'
theorem own_any(p:Option Addr)(c:Nat)(l:List Fx.Fix)(s:List UInt8)(w:World)(hc:l.length≤c)(hl:l.length≤1000000)(hm:Fx.mayF l=true)(h:Fxs w p l) :
  Calls Tryz.prog 31 #[.slice p l.length c,.string ⟨s.toArray⟩] w (GiveOwn w l s):=by
 have CB:=zh (bsearch_any p c l s w hc hl (Fx.good_iffF.1 hm).2 h);have HS:=zh h;have HM:=zh hm
 clear h hm;go_enter Tryz.func31,Tryz.ntmps31;go_wp2_with fail;refine CB.out.mono ?_;rintro e0 w0 ⟨⟨i,z,rfl,hf⟩,b0⟩;have HF:=zh hf;have hi:=hf.1;clear hf CB;go_wp2_with fail
 go_loopw [7] (fun x wr=>∃j:Nat,i≤j∧j≤l.length∧x=.int .i64 j∧Hid (∀t x,i≤t→t<j→l[t]?=some x→x.1.1=s)∧Below w.heap.size w wr) (fun x _=>l.length-(intOf x).toNat)
 case atStart=>exact⟨i,Nat.le_refl _,hi,rfl,fun t x h1 h2=>absurd h2 (by omega),b0⟩
 case round =>
  clear b0;obtain⟨j,hij,hjl,rfl,HJ,hw⟩:=hrel;have END:Hid ((∀x,l[j]?=some x→x.1.1≠s)→∀d,Fx.getF ((l.drop i).take (j-i)) (s,d)=Fx.getF l (s,d)):=zh (fun h2 d=>own_get HM.out HF.out hij hjl HJ.out h2 d);have HL:Hid (((l.drop i).take (j-i)).length=j-i):=zh (by rw[List.length_take,List.length_drop];omega);have HIN:Hid (∀x∈(l.drop i).take (j-i),x∈l):=zh (fun x hx=>List.mem_of_mem_drop (List.mem_of_mem_take hx));by_cases hlt:j<l.length
  ·obtain⟨⟨⟨a',d'⟩,⟨n',e'⟩⟩,hx⟩:∃x,l[j]?=some x:=⟨_,List.getElem?_eq_getElem (by omega)⟩;obtain⟨b,o,hp,k0,k1,k2,k3⟩:=fx_rule (HS.out.below hw) hx;have j0:=k0 wr (Below.refl _ _)
   cases q0:(a'==s) with
   | true =>
    have HN:Hid (∀t x,i≤t→t<j+1→l[t]?=some x→x.1.1=s):=zh (fun t x h1 h2 h3=>by
     rcases Nat.lt_succ_iff_lt_or_eq.1 h2 with h|h
     ·exact HJ.out t x h1 h h3
     ·rw[h,hx]at h3;cases h3;exact beq_iff_eq.1 q0)
    subst hp;clear k0 k1 k2 k3 hx END HL HIN;go_wp2_with fail;go_roundw
    case rel=>exact⟨j+1,by omega,hlt,by go_num,HN.out,hw⟩
    case measure=>simp[intOf];omega
   | false =>
    have HR:=zh (END.out (fun x h=>by rw[hx]at h;cases h;exact fun (e:a'=s)=>by rw[e]at q0;simp at q0));subst hp;have HT:=zh (rows_takes (rows_dropS (HS.out.below hw) i) (j-i));clear k0 k1 k2 k3 hx END;go_wp2_with fail;go_ret;exact⟨⟨_,c-i,(l.drop i).take (j-i),by rw[HL.out];rfl,by rw[HL.out];omega,by rw[HL.out];omega,HIN.out,HT.out,HR.out⟩,hw⟩
  ·obtain rfl:j=l.length:=by omega
   have HR:=zh (END.out (fun x h=>by rw[List.getElem?_eq_none (Nat.le_refl _)]at h;cases h));have HT:=zh (rows_takes (rows_drops (i:=i) (HS.out.below hw) hc) (l.length-i));clear END;go_wp2_with fail
   all_goals go_ret
   all_goals (refine⟨⟨_,_,(l.drop i).take (l.length-i),by rw[HL.out];rfl,by rw[HL.out];omega,by rw[HL.out];omega,HIN.out,?_,HR.out⟩,hw⟩)
   all_goals first
    | exact fx_in HT.out rfl
    | exact fx_in HT.out (by assumption)
    | exact fx_map HT.out (fun hc=>List.length_eq_zero_iff.1 (by rw[HL.out];omega))
end Go.Proofs.YthgopcnagecbaaaGreatDoor
set_option maxHeartbeats 4000000
set_option maxRecDepth 100000
namespace Go.Proofs.YthgopcnagecbaaaGreatDoor
open Go.RowKit
open Pk (Part Pack mayP valueP keepsP ofP)
open Pk (sumV sumV_app sumV_one sumV_lq sum_two GoodN)
theorem psum_any(K:Nat):∀ (N:Nat) (p:Option Addr) (c:Nat) (l:List Key) (w:World),l.length≤N→l≠[]→l.length≤c→GoodN K l→l.length*(K+1)≤10000→Kys w p l→Calls Tryz.prog 33 #[.slice p l.length c] w (GiveR w (rdN (sumV l),rdD (sumV l))):=by
 intro N
 induction N with
 | zero=>intro p c l w h1 h2;exact absurd (List.length_eq_zero_iff.1 (by omega)) h2
 | succ N ih =>
 intro p c l w hN hne hc hg hK h;by_cases h1:l.length=1
 ·obtain⟨⟨n,e⟩,rfl⟩:∃x,l=[x]:=List.length_eq_one_iff.1 h1;obtain⟨b,o,rfl,k0,k1⟩:=ky_rule h (k:=0) rfl;simp only[Nat.zero_mul,Nat.add_zero]at k0 k1;have hr:rd (sumV [(n,e)])=(n,e):=sumV_one (hg _ (List.mem_singleton.2 rfl)).1;have HE:Hid ((rdN (sumV [(n,e)]),rdD (sumV [(n,e)]))=(n,e)):=zh hr;show Calls Tryz.prog 33 #[.slice (some ⟨b,o,none⟩) 1 c] w _;have hc:1≤c:=hc;clear h hg hK ih hN hne hr h1;go_enter Tryz.func33,Tryz.ntmps33;have ba:=fun x=>Below.alloc (Below.refl w.heap.size w) (Nat.le_refl _) x;go_wp2_with fail;refine bodyPost_ret (v:=.agg #[.string ⟨n.toArray⟩,.string ⟨e.toArray⟩]) (by simp[results,Tryz.results33,go_sem, *]) rfl ⟨by rw[HE.out],?_⟩;exact Below.alloc (Below.refl _ _) (Nat.le_refl _) _
 ·obtain⟨hf,hhf⟩:∃hf,hf=l.length / 2:=⟨_,rfl⟩;have hl2:2≤l.length:=by
   have:l.length≠0:=fun e=>hne (List.length_eq_zero_iff.1 e);omega
  have hkk:l.length≤l.length*(K+1):=Nat.le_mul_of_pos_right _ (Nat.succ_pos _);have hf1:1≤hf:=by omega
  have hf2:hf<l.length:=by omega
  have hq1:(l.length:Int).tdiv 2=(hf:Int):=by rw[Int.tdiv_eq_ediv_of_nonneg (by omega)];omega
  have hq2:(l.length:Int) / 2=(hf:Int):=by omega
  have hq3:l.length / 2=hf:=hhf.symm;have hwf:wrap64 (hf:Int)=(hf:Int):=IntWalk.wrap64_in _ (by omega);have hfc:(hf:Int)≤(c:Int):=by omega
  have hfl:(hf:Int)≤(l.length:Int):=by omega
  have hf0:(0:Int)≤(hf:Int):=by omega
  have t1:(l.take hf).length=hf:=by rw[List.length_take];omega
  have t2:(l.drop hf).length=l.length-hf:=List.length_drop;have m1:hf*(K+1)≤10000:=Nat.le_trans (Nat.mul_le_mul_right _ (by omega)) hK;have m2:(l.length-hf)*(K+1)≤10000:=Nat.le_trans (Nat.mul_le_mul_right _ (by omega)) hK;have n1:l.take hf≠[]:=fun e=>by rw[e]at t1;simp at t1;omega
  have n2:l.drop hf≠[]:=fun e=>by rw[e]at t2;simp at t2;omega
  have g1:GoodN K (l.take hf):=fun x hx=>hg x (List.mem_of_mem_take hx);have g2:GoodN K (l.drop hf):=fun x hx=>hg x (List.mem_of_mem_drop hx);have hcne:¬c=hf:=by omega
  obtain⟨b,o,rfl⟩:∃b o,p=some ⟨b,o,none⟩:=by
   obtain⟨⟨n,e⟩,hx⟩:∃x,l[0]?=some x:=⟨_,List.getElem?_eq_getElem (by omega)⟩;obtain⟨b,o,hp,_⟩:=ky_rule h hx;exact⟨b,o,hp⟩
  have C1:Hid (∀V,Below w.heap.size w V→Calls Tryz.prog 33 #[.slice (some ⟨b,o,none⟩) hf c] V (GiveR V (rdN (sumV (l.take hf)),rdD (sumV (l.take hf))))):=zh (fun V hV=>by
   have k:=ih _ c (l.take hf) V (by omega) n1 (by omega) g1 (by rw[t1];exact m1) (rows_takes (h.below hV) hf);rw[t1]at k;exact k)
  have C2:Hid (∀V,Below w.heap.size w V→Calls Tryz.prog 33 #[.slice (some ⟨b,o+hf*2,none⟩) (l.length-hf) (c-hf)] V (GiveR V (rdN (sumV (l.drop hf)),rdD (sumV (l.drop hf))))):=zh (fun V hV=>by
   have k:=ih _ (c-hf) (l.drop hf) V (by omega) n2 (by omega) g2 (by rw[t2];exact m2) (rows_dropS (h.below hV) hf);rw[t2]at k;exact k)
  have L1:=sumV_lq (l.take hf) n1 g1 (by rw[t1];exact m1);have L2:=sumV_lq (l.drop hf) n2 g2 (by rw[t2];exact m2);have CA:Hid (∀V,Calls Tryz.prog 38 #[.agg #[.string ⟨(rdN (sumV (l.take hf))).toArray⟩,.string ⟨(rdD (sumV (l.take hf))).toArray⟩],.agg #[.string ⟨(rdN (sumV (l.drop hf))).toArray⟩,.string ⟨(rdD (sumV (l.drop hf))).toArray⟩]] V (GiveR V (rdN (sumV l),rdD (sumV l)))):=zh (fun V=>qAdd L1 L2 (by rw[←sumV_app,List.take_append_drop]) V);clear ih L1 L2 g1 g2 n1 n2 m1 m2 t1 t2 hK hg h hhf hne hN;go_enter Tryz.func33,Tryz.ntmps33;go_wp2_with fail;have hX:=blk_new w #[.string ⟨#[]⟩,.string ⟨#[]⟩] 23;have bX:Below w.heap.size w (w.alloc (.cells #[.string ⟨#[]⟩,.string ⟨#[]⟩] 23)):=Below.alloc (Below.refl _ _) (Nat.le_refl _) _;obtain⟨U,hU⟩:∃U,w.alloc (.cells #[.string ⟨#[]⟩,.string ⟨#[]⟩] 23)=U:=⟨_,rfl⟩;rw[hU]at hX bX ⊢;clear hU;have hB:=zh bX.size;have b0:Below w.heap.size U U:=(Below.refl U.heap.size U).mono bX.size;refine wp_region_noPanic ?_;refine wp_region_held_drew (S:=fun w'=>Below w.heap.size U w') (by kernel_rfl) (b0.drew) (fun hH0=>?_);have hX0:=hX.drew;refine wpAnyH_take (i:=0) (v:=?_) rfl (by kernel_rfl) (by kernel_rfl) (by kernel_rfl) (fun _ _ _ h=>h) (Or.inl ⟨by rfl,?_⟩) (by assumption) ?_;rotate_left 1
  ·(intro w hSw;(try dsimp only at hSw);go_simp<;>(with_reducible rfl))
  try simp only[Act.put,qA,qB,qC,qD,qE,qF]
  refine wpAnyH_take (i:=1) (v:=?_) rfl (by kernel_rfl) (by kernel_rfl) (by kernel_rfl) (fun _ _ _ h=>h) (Or.inl ⟨by rfl,?_⟩) (by assumption) ?_;rotate_left 1
  ·(intro w hSw;(try dsimp only at hSw);go_simp<;>(with_reducible rfl))
  try simp only[Act.put,qA,qB,qC,qD,qE,qF]
  refine wpAnyH_take (i:=2) (v:=?_) rfl (by kernel_rfl) (by kernel_rfl) (by kernel_rfl) (fun _ _ _ h=>h) (Or.inl ⟨by rfl,?_⟩) (by assumption) ?_;rotate_left 1
  ·(intro w hSw;(try dsimp only at hSw);go_simp<;>(with_reducible rfl))
  try simp only[Act.put,qA,qB,qC,qD,qE,qF]
  refine wpAnyH_take (i:=4) (v:=?_) rfl (by kernel_rfl) (by kernel_rfl) (by kernel_rfl) (fun _ _ _ h=>h) (Or.inl ⟨by rfl,?_⟩) (by assumption) ?_;rotate_left 1
  ·(intro w hSw;(try dsimp only at hSw);go_simp<;>(with_reducible rfl))
  try simp only[Act.put,qA,qB,qC,qD,qE,qF]
  refine wpAnyH_take (i:=5) (v:=?_) rfl (by kernel_rfl) (by kernel_rfl) (by kernel_rfl) (fun _ _ _ h=>h) (Or.inl ⟨by rfl,?_⟩) (by assumption) ?_;rotate_left 1
  ·(intro w hSw;(try dsimp only at hSw);go_simp<;>(with_reducible rfl))
  try simp only[Act.put,qA,qB,qC,qD,qE,qF]
  refine wpAnyH_take (i:=6) (v:=?_) rfl (by kernel_rfl) (by kernel_rfl) (by kernel_rfl) (fun _ _ _ h=>h) (Or.inl ⟨by rfl,?_⟩) (by assumption) ?_;rotate_left 1
  ·(intro w hSw;(try dsimp only at hSw);go_simp<;>(with_reducible rfl))
  try simp only[Act.put,qA,qB,qC,qD,qE,qF]
  refine wpAnyH_ready (rs:=[3]) (by kernel_rfl) (by simp) ?_;refine AllReadyH.cons rfl (fun K hK=>?_) AllReadyH.nil
  go_simp
  refine(held (W:=U) hB.out (C1.out _ (bX.trans (by assumption))) (by assumption)).mono ?_;rintro e x1 ⟨rfl,hb,hw⟩;have hX1:=hX0.below hb
  (try go_wp2_with fail)
  refine hK.out _ _ hw (fun hH1=>?_);clear hK hH0 hb hw hX0
  try simp only[Act.put,qA,qB,qC,qD,qE,qF]
  refine wpAnyH_ready (rs:=[7]) (by kernel_rfl) (by simp) ?_;refine AllReadyH.cons rfl (fun K hK=>?_) AllReadyH.nil
  go_simp
  refine(held (W:=U) hB.out (C2.out _ (bX.trans (by assumption))) (by assumption)).mono ?_;rintro e x2 ⟨rfl,hb,hw⟩;have hX2:=hX1.below hb
  (try go_wp2_with fail)
  refine hK.out _ _ hw (fun hH2=>?_);clear hK hH1 hb hw hX1
  try simp only[Act.put,qA,qB,qC,qD,qE,qF]
  refine wpAnyH_ready (rs:=[8]) (by kernel_rfl) (by simp) ?_;refine AllReadyH.cons rfl (fun K hK=>?_) AllReadyH.nil
  go_simp
  refine(held (W:=U) hB.out (CA.out _) (by assumption)).mono ?_;rintro e x3 ⟨rfl,hb,hw⟩;have hX3:=hX2.below hb
  (try go_wp2_with fail)
  refine hK.out _ _ hw (fun hH3=>?_);clear hK hH2 hb hw hX2
  try simp only[Act.put,qA,qB,qC,qD,qE,qF]
  have y0:=hX3.c 0 _ rfl;have y1:=hX3.c 1 _ rfl
  have z0:=hX3.f 0 (by simp);have z1:=hX3.f 1 (by simp)
  refine wpAnyH_ready (rs:=[9]) (by kernel_rfl) (by simp) ?_;refine AllReadyH.cons rfl (fun K hK=>?_) AllReadyH.nil
  go_simp
  refine hK.out _ _ (Below.setCell (Below.setCell (hH3) (Nat.le_refl _) _) (Nat.le_refl _) _) (fun hH4=>?_);clear hK hH4
  try simp only[Act.put,qA,qB,qC,qD,qE,qF]
  refine wpAnyH_done (by kernel_rfl) ?_ _;refine NoPanic.normal ?_;go_wp2_with fail;refine bodyPost_ret (v:=.agg #[.string ⟨(rdN (sumV l)).toArray⟩,.string ⟨(rdD (sumV l)).toArray⟩]) (by simp[results,Tryz.results33,go_sem, *]) rfl ⟨rfl,?_⟩;exact Below.setCell (Below.setCell (bX.trans hH3) (Nat.le_refl _) _) (Nat.le_refl _) _
end Go.Proofs.YthgopcnagecbaaaGreatDoor
