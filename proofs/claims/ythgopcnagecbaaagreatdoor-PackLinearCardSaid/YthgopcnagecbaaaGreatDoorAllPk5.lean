/- Own work. -/
import Derived.Test.YthgopcnagecbaaaGreatDoorAllPk4
set_option linter.unusedSimpArgs false
set_option linter.unusedVariables false
set_option maxHeartbeats 4000000
set_option maxRecDepth 100000
namespace Go.Proofs.YthgopcnagecbaaaGreatDoor
open Go.RowKit
open Pk (Part Pack mayP valueP keepsP ofP)
open Pk (sumV sumV_app sumV_one sumV_lq sum_two GoodN)
theorem psum_any(K:Nat):∀ (N:Nat) (p:Option Addr) (c:Nat) (l:List Key) (w:World),l.length≤N→l≠[]→l.length≤c→GoodN K l→l.length*(K+1)≤10000→Kys w p l→Calls Tryz.prog 33 #[.slice p l.length c] w (GiveR w (rdN (sumV l),rdD (sumV l))):=by
 intro N
 induction N with
 | zero=>intro p c l w h1 h2;exact absurd (List.length_eq_zero_iff.1 (by omega)) h2
 | succ N ih =>
 intro p c l w hN hne hc hg hK h;by_cases h1:l.length=1
 ·obtain⟨⟨n,e⟩,rfl⟩:∃x,l=[x]:=List.length_eq_one_iff.1 h1;obtain⟨b,o,rfl,k0,k1⟩:=ky_rule h (k:=0) rfl;simp only[Nat.zero_mul,Nat.add_zero]at k0 k1;have hr:rd (sumV [(n,e)])=(n,e):=sumV_one (hg _ (List.mem_singleton.2 rfl)).1;have HE:Hid ((rdN (sumV [(n,e)]),rdD (sumV [(n,e)]))=(n,e)):=zh hr;show Calls Tryz.prog 33 #[.slice (some ⟨b,o,none⟩) 1 c] w _;have hc:1≤c:=hc;clear h hg hK ih hN hne hr h1;go_enter Tryz.func33,Tryz.ntmps33;have ba:=fun x=>Below.alloc (Below.refl w.heap.size w) (Nat.le_refl _) x;go_wp2_with fail;refine bodyPost_ret (v:=.agg #[.string ⟨n.toArray⟩,.string ⟨e.toArray⟩]) (by simp[results,Tryz.results33,go_sem, *]) rfl ⟨by rw[HE.out],?_⟩;exact Below.alloc (Below.refl _ _) (Nat.le_refl _) _
 ·obtain⟨hf,hhf⟩:∃hf,hf=l.length / 2:=⟨_,rfl⟩;have hl2:2≤l.length:=by
   have:l.length≠0:=fun e=>hne (List.length_eq_zero_iff.1 e);omega
  have hkk:l.length≤l.length*(K+1):=Nat.le_mul_of_pos_right _ (Nat.succ_pos _);have hf1:1≤hf:=by omega
  have hf2:hf<l.length:=by omega
  have hq1:(l.length:Int).tdiv 2=(hf:Int):=by rw[Int.tdiv_eq_ediv_of_nonneg (by omega)];omega
  have hq2:(l.length:Int) / 2=(hf:Int):=by omega
  have hq3:l.length / 2=hf:=hhf.symm;have hwf:wrap64 (hf:Int)=(hf:Int):=IntWalk.wrap64_in _ (by omega);have hfc:(hf:Int)≤(c:Int):=by omega
  have hfl:(hf:Int)≤(l.length:Int):=by omega
  have hf0:(0:Int)≤(hf:Int):=by omega
  have t1:(l.take hf).length=hf:=by rw[List.length_take];omega
  have t2:(l.drop hf).length=l.length-hf:=List.length_drop;have m1:hf*(K+1)≤10000:=Nat.le_trans (Nat.mul_le_mul_right _ (by omega)) hK;have m2:(l.length-hf)*(K+1)≤10000:=Nat.le_trans (Nat.mul_le_mul_right _ (by omega)) hK;have n1:l.take hf≠[]:=fun e=>by rw[e]at t1;simp at t1;omega
  have n2:l.drop hf≠[]:=fun e=>by rw[e]at t2;simp at t2;omega
  have g1:GoodN K (l.take hf):=fun x hx=>hg x (List.mem_of_mem_take hx);have g2:GoodN K (l.drop hf):=fun x hx=>hg x (List.mem_of_mem_drop hx);have hcne:¬c=hf:=by omega
  obtain⟨b,o,rfl⟩:∃b o,p=some ⟨b,o,none⟩:=by
   obtain⟨⟨n,e⟩,hx⟩:∃x,l[0]?=some x:=⟨_,List.getElem?_eq_getElem (by omega)⟩;obtain⟨b,o,hp,_⟩:=ky_rule h hx;exact⟨b,o,hp⟩
  have C1:Hid (∀V,Below w.heap.size w V→Calls Tryz.prog 33 #[.slice (some ⟨b,o,none⟩) hf c] V (GiveR V (rdN (sumV (l.take hf)),rdD (sumV (l.take hf))))):=zh (fun V hV=>by
   have k:=ih _ c (l.take hf) V (by omega) n1 (by omega) g1 (by rw[t1];exact m1) (rows_takes (h.below hV) hf);rw[t1]at k;exact k)
  have C2:Hid (∀V,Below w.heap.size w V→Calls Tryz.prog 33 #[.slice (some ⟨b,o+hf*2,none⟩) (l.length-hf) (c-hf)] V (GiveR V (rdN (sumV (l.drop hf)),rdD (sumV (l.drop hf))))):=zh (fun V hV=>by
   have k:=ih _ (c-hf) (l.drop hf) V (by omega) n2 (by omega) g2 (by rw[t2];exact m2) (rows_dropS (h.below hV) hf);rw[t2]at k;exact k)
  have L1:=sumV_lq (l.take hf) n1 g1 (by rw[t1];exact m1);have L2:=sumV_lq (l.drop hf) n2 g2 (by rw[t2];exact m2);have CA:Hid (∀V,Calls Tryz.prog 38 #[.agg #[.string ⟨(rdN (sumV (l.take hf))).toArray⟩,.string ⟨(rdD (sumV (l.take hf))).toArray⟩],.agg #[.string ⟨(rdN (sumV (l.drop hf))).toArray⟩,.string ⟨(rdD (sumV (l.drop hf))).toArray⟩]] V (GiveR V (rdN (sumV l),rdD (sumV l)))):=zh (fun V=>qAdd L1 L2 (by rw[←sumV_app,List.take_append_drop]) V);clear ih L1 L2 g1 g2 n1 n2 m1 m2 t1 t2 hK hg h hhf hne hN;go_enter Tryz.func33,Tryz.ntmps33;go_wp2_with fail;have hX:=blk_new w #[.string ⟨#[]⟩,.string ⟨#[]⟩] 23;have bX:Below w.heap.size w (w.alloc (.cells #[.string ⟨#[]⟩,.string ⟨#[]⟩] 23)):=Below.alloc (Below.refl _ _) (Nat.le_refl _) _;obtain⟨U,hU⟩:∃U,w.alloc (.cells #[.string ⟨#[]⟩,.string ⟨#[]⟩] 23)=U:=⟨_,rfl⟩;rw[hU]at hX bX ⊢;clear hU;have hB:=zh bX.size;have b0:Below w.heap.size U U:=(Below.refl U.heap.size U).mono bX.size;refine wp_region_noPanic ?_;refine wp_region_held_drew (S:=fun w'=>Below w.heap.size U w') (by kernel_rfl) (b0.drew) (fun hH0=>?_);have hX0:=hX.drew;refine wpAnyH_take (i:=0) (v:=?_) rfl (by kernel_rfl) (by kernel_rfl) (by kernel_rfl) (fun _ _ _ h=>h) (Or.inl ⟨by rfl,?_⟩) (by assumption) ?_;rotate_left 1
  ·(intro w hSw;(try dsimp only at hSw);go_simp<;>(with_reducible rfl))
  try simp only[Act.put,qA,qB,qC,qD,qE,qF]
  refine wpAnyH_take (i:=1) (v:=?_) rfl (by kernel_rfl) (by kernel_rfl) (by kernel_rfl) (fun _ _ _ h=>h) (Or.inl ⟨by rfl,?_⟩) (by assumption) ?_;rotate_left 1
  ·(intro w hSw;(try dsimp only at hSw);go_simp<;>(with_reducible rfl))
  try simp only[Act.put,qA,qB,qC,qD,qE,qF]
  refine wpAnyH_take (i:=2) (v:=?_) rfl (by kernel_rfl) (by kernel_rfl) (by kernel_rfl) (fun _ _ _ h=>h) (Or.inl ⟨by rfl,?_⟩) (by assumption) ?_;rotate_left 1
  ·(intro w hSw;(try dsimp only at hSw);go_simp<;>(with_reducible rfl))
  try simp only[Act.put,qA,qB,qC,qD,qE,qF]
  refine wpAnyH_take (i:=4) (v:=?_) rfl (by kernel_rfl) (by kernel_rfl) (by kernel_rfl) (fun _ _ _ h=>h) (Or.inl ⟨by rfl,?_⟩) (by assumption) ?_;rotate_left 1
  ·(intro w hSw;(try dsimp only at hSw);go_simp<;>(with_reducible rfl))
  try simp only[Act.put,qA,qB,qC,qD,qE,qF]
  refine wpAnyH_take (i:=5) (v:=?_) rfl (by kernel_rfl) (by kernel_rfl) (by kernel_rfl) (fun _ _ _ h=>h) (Or.inl ⟨by rfl,?_⟩) (by assumption) ?_;rotate_left 1
  ·(intro w hSw;(try dsimp only at hSw);go_simp<;>(with_reducible rfl))
  try simp only[Act.put,qA,qB,qC,qD,qE,qF]
  refine wpAnyH_take (i:=6) (v:=?_) rfl (by kernel_rfl) (by kernel_rfl) (by kernel_rfl) (fun _ _ _ h=>h) (Or.inl ⟨by rfl,?_⟩) (by assumption) ?_;rotate_left 1
  ·(intro w hSw;(try dsimp only at hSw);go_simp<;>(with_reducible rfl))
  try simp only[Act.put,qA,qB,qC,qD,qE,qF]
  refine wpAnyH_ready (rs:=[3]) (by kernel_rfl) (by simp) ?_;refine AllReadyH.cons rfl (fun K hK=>?_) AllReadyH.nil
  go_simp
  refine(held (W:=U) hB.out (C1.out _ (bX.trans (by assumption))) (by assumption)).mono ?_;rintro e x1 ⟨rfl,hb,hw⟩;have hX1:=hX0.below hb
  (try go_wp2_with fail)
  refine hK.out _ _ hw (fun hH1=>?_);clear hK hH0 hb hw hX0
  try simp only[Act.put,qA,qB,qC,qD,qE,qF]
  refine wpAnyH_ready (rs:=[7]) (by kernel_rfl) (by simp) ?_;refine AllReadyH.cons rfl (fun K hK=>?_) AllReadyH.nil
  go_simp
  refine(held (W:=U) hB.out (C2.out _ (bX.trans (by assumption))) (by assumption)).mono ?_;rintro e x2 ⟨rfl,hb,hw⟩;have hX2:=hX1.below hb
  (try go_wp2_with fail)
  refine hK.out _ _ hw (fun hH2=>?_);clear hK hH1 hb hw hX1
  try simp only[Act.put,qA,qB,qC,qD,qE,qF]
  refine wpAnyH_ready (rs:=[8]) (by kernel_rfl) (by simp) ?_;refine AllReadyH.cons rfl (fun K hK=>?_) AllReadyH.nil
  go_simp
  refine(held (W:=U) hB.out (CA.out _) (by assumption)).mono ?_;rintro e x3 ⟨rfl,hb,hw⟩;have hX3:=hX2.below hb
  (try go_wp2_with fail)
  refine hK.out _ _ hw (fun hH3=>?_);clear hK hH2 hb hw hX2
  try simp only[Act.put,qA,qB,qC,qD,qE,qF]
  have y0:=hX3.c 0 _ rfl;have y1:=hX3.c 1 _ rfl
  have z0:=hX3.f 0 (by simp);have z1:=hX3.f 1 (by simp)
  refine wpAnyH_ready (rs:=[9]) (by kernel_rfl) (by simp) ?_;refine AllReadyH.cons rfl (fun K hK=>?_) AllReadyH.nil
  go_simp
  refine hK.out _ _ (Below.setCell (Below.setCell (hH3) (Nat.le_refl _) _) (Nat.le_refl _) _) (fun hH4=>?_);clear hK hH4
  try simp only[Act.put,qA,qB,qC,qD,qE,qF]
  refine wpAnyH_done (by kernel_rfl) ?_ _;refine NoPanic.normal ?_;go_wp2_with fail;refine bodyPost_ret (v:=.agg #[.string ⟨(rdN (sumV l)).toArray⟩,.string ⟨(rdD (sumV l)).toArray⟩]) (by simp[results,Tryz.results33,go_sem, *]) rfl ⟨rfl,?_⟩;exact Below.setCell (Below.setCell (bX.trans hH3) (Nat.le_refl _) _) (Nat.le_refl _) _
end Go.Proofs.YthgopcnagecbaaaGreatDoor
