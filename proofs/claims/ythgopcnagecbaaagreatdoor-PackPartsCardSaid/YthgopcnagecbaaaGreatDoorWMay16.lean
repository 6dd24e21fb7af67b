/- Own work. -/
import Derived.Test.YthgopcnagecbaaaGreatDoorFixPk
import Derived.Test.YthgopcnagecbaaaGreatDoorAcLt
set_option linter.unusedSimpArgs false
set_option linter.unusedVariables false
set_option maxHeartbeats 8000000
set_option maxRecDepth 100000
namespace Go.Proofs.YthgopcnagecbaaaGreatDoor
open Go.RowKit
open Pk (Part Pack mayP valueP keepsP ofP)
variable {G : World → Prop}
theorem len_two{α:Type}{l:List α}(h:l.length=2):∃x y,l=[x,y]:=by
 match l,h with
 | [x,y],_=>exact⟨x,y,rfl⟩
theorem num_sz{x:Key}{b:Bool}{m:Int}(h:Ac.numB x b m=true):x.1.length≤20∧x.2.length≤20:=by
 cases b with
 | true=>exact((numB_len h rfl).2)
 | false =>
  unfold Ac.numB at h;rw[if_neg (by decide)]at h;rw[beq_iff_eq.1 h];exact⟨by decide,by decide⟩
theorem one_sz{x:Key}(h:isR x=true)(h1:x.1.length≤20)(h2:x.2.length≤20):(addR ([49],[49]) x).1.length≤100∧(addR ([49],[49]) x).2.length≤100:=by
 have k:=(Pk.key_lq (K:=1) Pk.one_rat.1 (by decide) (by decide) (by decide)).add (Pk.key_lq h h1 h2 (by decide)) (by decide);rw[Pk.add_one _ _ Pk.one_rat.1 h];have l1:=k.len1;have l2:=k.len2
 exact⟨by show (rdN _).length≤_;omega,by show (rdD _).length≤_;omega⟩
theorem sz_of{a:Ac.Actn}(hm:Ac.mayA a=true):SzPk 100 (ofP a):=by
 obtain⟨_,_,hk,_,hr,hc⟩:=Pk.may_parts hm;have c1:=num_sz hc;have r1:=num_sz hr;have hone:([49]:List UInt8).length≤100∧([49]:List UInt8).length≤100:=⟨by decide,by decide⟩;have key:(if a.kind=0 then a.ratio else if a.kind=1 then addR ([49],[49]) a.ratio else ([49],[49])).1.length≤100∧(if a.kind=0 then a.ratio else if a.kind=1 then addR ([49],[49]) a.ratio else ([49],[49])).2.length≤100:=by
  by_cases e0:a.kind=0
  ·rw[if_pos e0];omega
  ·rw[if_neg e0];by_cases e1:a.kind=1
   ·rw[if_pos e1];rw[e1]at hr;have h:=numB_len hr rfl;exact one_sz h.1 h.2.1 h.2.2
   ·rw[if_neg e1];exact hone
 unfold ofP;rw[if_pos hm];dsimp only;generalize (if a.kind=0 then a.ratio else if a.kind=1 then addR ([49],[49]) a.ratio else ([49],[49]))=r at *;have s1:∀ (s:List UInt8) (q:Key),q.1.length≤100→q.2.length≤100→SzPk 100 ⟨[(s,q)],a.cash⟩:=fun s q h1 h2=>⟨fun y hy=>by rw[List.mem_singleton.1 hy];exact⟨h1,h2⟩,by show a.cash.1.length≤_;omega,by show a.cash.2.length≤_;omega⟩;have s2:∀ (s t:List UInt8) (q z:Key),q.1.length≤100→q.2.length≤100→z.1.length≤100→z.2.length≤100→SzPk 100 ⟨[(s,q),(t,z)],a.cash⟩:=fun s t q z h1 h2 h3 h4=>⟨fun y hy=>by
  rcases List.mem_cons.1 hy with rfl|hy
  ·exact⟨h1,h2⟩
  ·rw[List.mem_singleton.1 hy];exact⟨h3,h4⟩,by show a.cash.1.length≤_;omega,by show a.cash.2.length≤_;omega⟩
 have q1:a.ratio.1.length≤100:=by omega
 have q2:a.ratio.2.length≤100:=by omega
 split
 ·exact s1 _ _ key.1 key.2
 ·split
  ·exact s1 _ _ q1 q2
  ·split
   ·exact s2 _ _ _ _ key.1 key.2 q1 q2
   ·exact s2 _ _ _ _ q1 q2 key.1 key.2
theorem may16_x(nm ast oth rn rd cn cd:List UInt8)(k ex rc pay:Int)(H:PackC G)(w:World)(hza:nm.length+ast.length+oth.length≤4611686018427387904)(hg:G w):Calls Tryz.prog 5 #[.agg #[.string ⟨nm.toArray⟩,.int .i64 k,.string ⟨ast.toArray⟩,.string ⟨oth.toArray⟩,.string ⟨rn.toArray⟩,.string ⟨rd.toArray⟩,.string ⟨cn.toArray⟩,.string ⟨cd.toArray⟩,.int .i64 ex,.int .i64 rc,.int .i64 pay]] w (GiveB w true):=by
 have HB:=zh H;have HG:=zh hg
 have FX:=zh (fun V g=>fixed16_any H V g);clear H hg;have CL:=zh (fun V=>aclight_y nm ast oth rn rd cn cd k ex rc pay V hza);have hsz:lightA ⟨nm,k,ast,oth,(rn,rd),(cn,cd),ex,rc,pay⟩=true→SzA ⟨nm,k,ast,oth,(rn,rd),(cn,cd),ex,rc,pay⟩:=fun h=>by
  unfold lightA at h;simp only[Bool.and_eq_true,decide_eq_true_eq]at h;exact⟨⟨by show nm.length≤_;omega,by show ast.length≤_;omega,by show oth.length≤_;omega⟩,⟨by show rn.length≤_;omega,by show rd.length≤_;omega⟩,by show cn.length≤_;omega,by show cd.length≤_;omega⟩
 have HSZ:=zh hsz;clear hza hsz;generalize lightA _=la at CL HSZ;go_enter Tryz.func5,Tryz.ntmps5;have BW:=Below.refl w.heap.size w;have b0:=Below.refl w.heap.size w;go_wp2_with fail;obtain⟨U1,hU,bU,s1,kk⟩:=layN b0 #[.string ⟨nm.toArray⟩,.int .i64 k,.string ⟨ast.toArray⟩,.string ⟨oth.toArray⟩,.string ⟨rn.toArray⟩,.string ⟨rd.toArray⟩,.string ⟨cn.toArray⟩,.string ⟨cd.toArray⟩,.int .i64 ex,.int .i64 rc,.int .i64 pay] 25;rw[hU];clear hU;have ra0:=kk 0 _ rfl;have ra1:=kk 1 _ rfl;have ra2:=kk 2 _ rfl;have ra3:=kk 3 _ rfl;have ra4:=kk 4 _ rfl;have ra5:=kk 5 _ rfl;have ra6:=kk 6 _ rfl;have ra7:=kk 7 _ rfl;have ra8:=kk 8 _ rfl;have ra9:=kk 9 _ rfl;have ra10:=kk 10 _ rfl
 clear kk;replace BW:=Below.more BW bU;replace HG:=zh (HB.out.below HG.out bU);clear bU;have b1:=Below.refl U1.heap.size U1;clear s1;refine(FX.out _ (HB.out.below HG.out b1)).mono ?_;rintro e w2 ⟨rfl,b⟩;have b2:=Below.more b1 b;clear b;go_wp2_with fail;refine(CL.out _).mono ?_;rintro e w3 ⟨rfl,b⟩;have b3:=Below.more b2 b;clear b
 cases la with
 | false =>
  go_wp2_with fail;refine(FX.out _ (HB.out.below HG.out b3)).mono ?_;rintro e w4 ⟨rfl,b⟩;have b4:=Below.more b3 b;clear b;go_wp2_with fail;go_ret;exact⟨ret_bool (by first|rfl|simp),Below.more BW b4⟩
 | true =>
 have CM:=zh (fun V=>acmay_any ⟨nm,k,ast,oth,(rn,rd),(cn,cd),ex,rc,pay⟩ V (HSZ.out rfl));clear CL
 cases hm:Ac.mayA ⟨nm,k,ast,oth,(rn,rd),(cn,cd),ex,rc,pay⟩ with
 | false =>
  rw[hm]at CM;clear hm;go_wp2_with fail;refine(CM.out _).mono ?_;rintro e w4 ⟨rfl,b⟩;have b4:=Below.more b3 b;clear b;go_wp2_with fail;refine(FX.out _ (HB.out.below HG.out b4)).mono ?_;rintro e w5 ⟨rfl,b⟩;have b5:=Below.more b4 b;clear b;go_wp2_with fail;go_ret;exact⟨ret_bool (by first|rfl|simp),Below.more BW b5⟩
 | true =>
 rw[hm]at CM;obtain⟨m1,m2,m3⟩:=Pk.of_may hm;have hk:=(Pk.may_parts hm).2.2.1;dsimp only at hk m2 m3;have hnum:=numB_len (x:=(rn,rd)) (b:=Ac.rB k) (m:=1) (Pk.may_parts hm).2.2.2.2.1;have HSP:=zh (sz_of hm);clear hm;go_wp2_with fail;refine(CM.out _).mono ?_;rintro e w4 ⟨rfl,b⟩;have b4:=Below.more b3 b;clear b;have CO:=zh (HB.out.of ⟨nm,k,ast,oth,(rn,rd),(cn,cd),ex,rc,pay⟩ _ (HB.out.below HG.out b4));generalize ofP ⟨nm,k,ast,oth,(rn,rd),(cn,cd),ex,rc,pay⟩=P at *;obtain⟨ps,⟨qn,qd⟩⟩:=P;dsimp only at m1 m2 m3;have HM2:=zh m2;clear m2;go_wp2_with fail;refine(CO.out).mono ?_;rintro e0 U5 ⟨⟨pq,cq,rfl,hcq,hlq⟩,b⟩;have bU:=Below.more b4 b;clear b;replace ra0:=fun v (h:Below U5.heap.size U5 v)=>ra0 v (Below.more bU h);replace ra1:=fun v (h:Below U5.heap.size U5 v)=>ra1 v (Below.more bU h);replace ra2:=fun v (h:Below U5.heap.size U5 v)=>ra2 v (Below.more bU h);replace ra3:=fun v (h:Below U5.heap.size U5 v)=>ra3 v (Below.more bU h);replace ra4:=fun v (h:Below U5.heap.size U5 v)=>ra4 v (Below.more bU h);replace ra5:=fun v (h:Below U5.heap.size U5 v)=>ra5 v (Below.more bU h);replace ra6:=fun v (h:Below U5.heap.size U5 v)=>ra6 v (Below.more bU h);replace ra7:=fun v (h:Below U5.heap.size U5 v)=>ra7 v (Below.more bU h);replace ra8:=fun v (h:Below U5.heap.size U5 v)=>ra8 v (Below.more bU h);replace ra9:=fun v (h:Below U5.heap.size U5 v)=>ra9 v (Below.more bU h);replace ra10:=fun v (h:Below U5.heap.size U5 v)=>ra10 v (Below.more bU h);replace BW:=Below.more BW bU;replace HG:=zh (HB.out.below HG.out bU)
 have Lq:=zh hlq;clear hlq;clear bU;have b5:=Below.refl U5.heap.size U5;clear CO CM FX HSZ;dsimp only at hcq;replace Lq:Hid (Pts _ pq ps):=Lq;have ba:=fun x=>Below.alloc b5 (Below.size b5) x;go_wp2_with fail;clear ba;obtain⟨U6,hU,bU,s6,kk⟩:=layN b5 #[.slice pq ps.length cq,.string ⟨qn.toArray⟩,.string ⟨qd.toArray⟩] 28;rw[hU];clear hU;have rp0:=kk 0 _ rfl;have rp1:=kk 1 _ rfl;have rp2:=kk 2 _ rfl
 clear kk s6;replace ra0:=fun v (h:Below U6.heap.size U6 v)=>ra0 v (Below.more bU h);replace ra1:=fun v (h:Below U6.heap.size U6 v)=>ra1 v (Below.more bU h);replace ra2:=fun v (h:Below U6.heap.size U6 v)=>ra2 v (Below.more bU h);replace ra3:=fun v (h:Below U6.heap.size U6 v)=>ra3 v (Below.more bU h);replace ra4:=fun v (h:Below U6.heap.size U6 v)=>ra4 v (Below.more bU h);replace ra5:=fun v (h:Below U6.heap.size U6 v)=>ra5 v (Below.more bU h);replace ra6:=fun v (h:Below U6.heap.size U6 v)=>ra6 v (Below.more bU h);replace ra7:=fun v (h:Below U6.heap.size U6 v)=>ra7 v (Below.more bU h);replace ra8:=fun v (h:Below U6.heap.size U6 v)=>ra8 v (Below.more bU h);replace ra9:=fun v (h:Below U6.heap.size U6 v)=>ra9 v (Below.more bU h);replace ra10:=fun v (h:Below U6.heap.size U6 v)=>ra10 v (Below.more bU h);replace Lq:=zh (Lq.out.below bU);replace BW:=Below.more BW bU;replace HG:=zh (HB.out.below HG.out bU);clear bU;have b6:=Below.refl U6.heap.size U6;have HMY:=zh m1;have HKP:=zh m3
 clear m1 m3;rcases(show k=0∨k=1∨k=2∨k=3∨k=4 by omega) with rfl|rfl|rfl|rfl|rfl
 ·cases e1:(rn == [49]) with
  | false =>
   have e1':¬rn=[49]:=fun c=>by rw[c]at e1;simp at e1
   obtain⟨x,rfl⟩:∃x,ps=[x]:=List.length_eq_one_iff.1 (by rw[HM2.out];rfl);have hkp:keepsP ⟨[x],(qn,qd)⟩ ast=false:=by rw[HKP.out];simp[*]
   have CMP:Hid (∀V,Below U6.heap.size U6 V→Calls Tryz.prog 17 #[.agg #[.slice pq 1 cq,.string ⟨qn.toArray⟩,.string ⟨qd.toArray⟩]] V (GiveB V true)):=zh (fun V hV=>by
    have k:=HB.out.may pq cq ⟨[x],(qn,qd)⟩ V hcq (by simp) (HSP.out.mono (by decide)) (Lq.out.below hV) (HB.out.below HG.out hV);rw[HMY.out]at k;exact k)
   have CKP:Hid (∀V,Below U6.heap.size U6 V→Calls Tryz.prog 19 #[.agg #[.slice pq 1 cq,.string ⟨qn.toArray⟩,.string ⟨qd.toArray⟩],.string ⟨ast.toArray⟩] V (GiveB V false)):=zh (fun V hV=>by
    have k:=HB.out.keeps pq cq ⟨[x],(qn,qd)⟩ ast V hcq (by simp) (Lq.out.below hV) (HB.out.below HG.out hV);rw[hkp]at k;exact k)
   clear hkp HM2 HMY HKP HSP
   (try simp only[List.length_cons,List.length_nil,Nat.zero_add,Nat.reduceAdd]at rp0 rp1 rp2)
   (try go_wp2_with fail)
   have hB:=zh (Nat.le_refl U6.heap.size);refine wp_region_noPanic ?_;refine wp_region_held_drew (S:=fun w'=>Below U6.heap.size U6 w') (by kernel_rfl) (b6.drew) (fun hH0=>?_);refine wpAnyH_take (i:=0) (v:=?_) rfl (by kernel_rfl) (by kernel_rfl) (by kernel_rfl) (fun _ _ _ h=>h) (Or.inl ⟨by rfl,?_⟩) (by assumption) ?_;rotate_left 1
   ·(intro w hSw;(try dsimp only at hSw);go_simp<;>(with_reducible rfl))
   try simp only[Act.put,qA,qB,qC,qD,qE,qF]
   refine wpAnyH_take (i:=1) (v:=?_) rfl (by kernel_rfl) (by kernel_rfl) (by kernel_rfl) (fun _ _ _ h=>h) (Or.inl ⟨by rfl,?_⟩) (by assumption) ?_;rotate_left 1
   ·(intro w hSw;(try dsimp only at hSw);go_simp<;>(with_reducible rfl))
   try simp only[Act.put,qA,qB,qC,qD,qE,qF]
   refine wpAnyH_take (i:=2) (v:=?_) rfl (by kernel_rfl) (by kernel_rfl) (by kernel_rfl) (fun _ _ _ h=>h) (Or.inl ⟨by rfl,?_⟩) (by assumption) ?_;rotate_left 1
   ·(intro w hSw;(try dsimp only at hSw);go_simp<;>(with_reducible rfl))
   try simp only[Act.put,qA,qB,qC,qD,qE,qF]
   refine wpAnyH_take (i:=3) (v:=?_) rfl (by kernel_rfl) (by kernel_rfl) (by kernel_rfl) (fun _ _ _ h=>h) (Or.inl ⟨by rfl,?_⟩) (by assumption) ?_;rotate_left 1
   ·(intro w hSw;(try dsimp only at hSw);go_simp<;>(with_reducible rfl))
   try simp only[Act.put,qA,qB,qC,qD,qE,qF]
   refine wpAnyH_take (i:=4) (v:=?_) rfl (by kernel_rfl) (by kernel_rfl) (by kernel_rfl) (fun _ _ _ h=>h) (Or.inl ⟨by rfl,?_⟩) (by assumption) ?_;rotate_left 1
   ·(intro w hSw;(try dsimp only at hSw);go_simp<;>(with_reducible rfl))
   try simp only[Act.put,qA,qB,qC,qD,qE,qF]
   refine wpAnyH_take (i:=5) (v:=?_) rfl (by kernel_rfl) (by kernel_rfl) (by kernel_rfl) (fun _ _ _ h=>h) (Or.inl ⟨by rfl,?_⟩) (by assumption) ?_;rotate_left 1
   ·(intro w hSw;(try dsimp only at hSw);go_simp<;>(with_reducible rfl))
   try simp only[Act.put,qA,qB,qC,qD,qE,qF]
   refine wpAnyH_take (i:=6) (v:=?_) rfl (by kernel_rfl) (by kernel_rfl) (by kernel_rfl) (fun _ _ _ h=>h) (Or.inl ⟨by rfl,?_⟩) (by assumption) ?_;rotate_left 1
   ·(intro w hSw;(try dsimp only at hSw);go_simp<;>(with_reducible rfl))
   try simp only[Act.put,qA,qB,qC,qD,qE,qF]
   refine wpAnyH_take (i:=7) (v:=?_) rfl (by kernel_rfl) (by kernel_rfl) (by kernel_rfl) (fun _ _ _ h=>h) (Or.inl ⟨by rfl,?_⟩) (by assumption) ?_;rotate_left 1
   ·(intro w hSw;(try dsimp only at hSw);go_simp<;>(with_reducible rfl))
   try simp only[Act.put,qA,qB,qC,qD,qE,qF]
   refine wpAnyH_take (i:=8) (v:=?_) rfl (by kernel_rfl) (by kernel_rfl) (by kernel_rfl) (fun _ _ _ h=>h) (Or.inl ⟨by rfl,?_⟩) (by assumption) ?_;rotate_left 1
   ·(intro w hSw;(try dsimp only at hSw);go_simp<;>(with_reducible rfl))
   try simp only[Act.put,qA,qB,qC,qD,qE,qF]
   refine wpAnyH_take (i:=9) (v:=?_) rfl (by kernel_rfl) (by kernel_rfl) (by kernel_rfl) (fun _ _ _ h=>h) (Or.inl ⟨by rfl,?_⟩) (by assumption) ?_;rotate_left 1
   ·(intro w hSw;(try dsimp only at hSw);go_simp<;>(with_reducible rfl))
   try simp only[Act.put,qA,qB,qC,qD,qE,qF]
   refine wpAnyH_take (i:=10) (v:=?_) rfl (by kernel_rfl) (by kernel_rfl) (by kernel_rfl) (fun _ _ _ h=>h) (Or.inl ⟨by rfl,?_⟩) (by assumption) ?_;rotate_left 1
   ·(intro w hSw;(try dsimp only at hSw);go_simp<;>(with_reducible rfl))
   try simp only[Act.put,qA,qB,qC,qD,qE,qF]
   refine wpAnyH_take (i:=11) (v:=?_) rfl (by kernel_rfl) (by kernel_rfl) (by kernel_rfl) (fun _ _ _ h=>h) (Or.inl ⟨by rfl,?_⟩) (by assumption) ?_;rotate_left 1
   ·(intro w hSw;(try dsimp only at hSw);go_simp<;>(with_reducible rfl))
   try simp only[Act.put,qA,qB,qC,qD,qE,qF]
   refine wpAnyH_take (i:=12) (v:=?_) rfl (by kernel_rfl) (by kernel_rfl) (by kernel_rfl) (fun _ _ _ h=>h) (Or.inl ⟨by rfl,?_⟩) (by assumption) ?_;rotate_left 1
   ·(intro w hSw;(try dsimp only at hSw);go_simp<;>(with_reducible rfl))
   try simp only[Act.put,qA,qB,qC,qD,qE,qF]
   refine wpAnyH_take (i:=13) (v:=?_) rfl (by kernel_rfl) (by kernel_rfl) (by kernel_rfl) (fun _ _ _ h=>h) (Or.inl ⟨by rfl,?_⟩) (by assumption) ?_;rotate_left 1
   ·(intro w hSw;(try dsimp only at hSw);go_simp<;>(with_reducible rfl))
   try simp only[Act.put,qA,qB,qC,qD,qE,qF]
   refine wpAnyH_take (i:=14) (v:=?_) rfl (by kernel_rfl) (by kernel_rfl) (by kernel_rfl) (fun _ _ _ h=>h) (Or.inl ⟨by rfl,?_⟩) (by assumption) ?_;rotate_left 1
   ·(intro w hSw;(try dsimp only at hSw);go_simp<;>(with_reducible rfl))
   try simp only[Act.put,qA,qB,qC,qD,qE,qF]
   refine wpAnyH_ready (rs:=[15]) (by kernel_rfl) (by simp) ?_;refine AllReadyH.cons rfl (fun K hK=>?_) AllReadyH.nil
   go_simp
   refine(held (W:=U6) hB.out (pk_o (n:=1) (l:=[49]) (by decide) (by decide) (by decide +kernel) _) (by assumption)).mono ?_;rintro e x1 ⟨rfl,hb,hw⟩
   (try go_wp2_with fail)
   refine hK.out _ _ hw (fun hH1=>?_);clear hK hH0 hb hw
   try simp only[Act.put,qA,qB,qC,qD,qE,qF]
   refine wpAnyH_take (i:=16) (v:=?_) rfl (by kernel_rfl) (by kernel_rfl) (by kernel_rfl) (fun _ _ _ h=>h) (Or.inl ⟨by rfl,?_⟩) (by assumption) ?_;rotate_left 1
   ·(intro w hSw;(try dsimp only at hSw);go_simp<;>(with_reducible rfl))
   try simp only[Act.put,qA,qB,qC,qD,qE,qF]
   refine wpAnyH_take (i:=17) (v:=?_) rfl (by kernel_rfl) (by kernel_rfl) (by kernel_rfl) (fun _ _ _ h=>h) (Or.inl ⟨by rfl,?_⟩) (by assumption) ?_;rotate_left 1
   ·(intro w hSw;(try dsimp only at hSw);go_simp<;>(with_reducible rfl))
   try simp only[Act.put,qA,qB,qC,qD,qE,qF]
   refine wpAnyH_take (i:=18) (v:=?_) rfl (by kernel_rfl) (by kernel_rfl) (by kernel_rfl) (fun _ _ _ h=>h) (Or.inl ⟨by rfl,?_⟩) (by assumption) ?_;rotate_left 1
   ·(intro w hSw;(try dsimp only at hSw);go_simp<;>(with_reducible rfl))
   try simp only[Act.put,qA,qB,qC,qD,qE,qF]
   refine wpAnyH_take (i:=19) (v:=?_) rfl (by kernel_rfl) (by kernel_rfl) (by kernel_rfl) (fun _ _ _ h=>h) (Or.inl ⟨by rfl,?_⟩) (by assumption) ?_;rotate_left 1
   ·(intro w hSw;(try dsimp only at hSw);go_simp<;>(with_reducible rfl))
   try simp only[Act.put,qA,qB,qC,qD,qE,qF]
   refine wpAnyH_done (by kernel_rfl) ?_ _;refine NoPanic.normal ?_;have b7:=hH1;clear hH1;clear hB;go_wp2_with fail;refine(CMP.out _ b7).mono ?_;rintro e w8 ⟨rfl,b⟩;have b8:=Below.more b7 b;clear b;go_wp2_with fail;refine(CKP.out _ b8).mono ?_;rintro e w9 ⟨rfl,b⟩;have b9:=Below.more b8 b;clear b;go_wp2_with fail;go_ret;exact⟨ret_bool (by first|rfl|simp|decide),Below.more BW b9⟩
  | true =>
  obtain rfl:=beq_iff_eq.1 e1;clear e1
  cases e2:(rd == [49]) with
  | false =>
   have e2':¬rd=[49]:=fun c=>by rw[c]at e2;simp at e2
   obtain⟨x,rfl⟩:∃x,ps=[x]:=List.length_eq_one_iff.1 (by rw[HM2.out];rfl);have hkp:keepsP ⟨[x],(qn,qd)⟩ ast=false:=by rw[HKP.out];simp[*]
   have CMP:Hid (∀V,Below U6.heap.size U6 V→Calls Tryz.prog 17 #[.agg #[.slice pq 1 cq,.string ⟨qn.toArray⟩,.string ⟨qd.toArray⟩]] V (GiveB V true)):=zh (fun V hV=>by
    have k:=HB.out.may pq cq ⟨[x],(qn,qd)⟩ V hcq (by simp) (HSP.out.mono (by decide)) (Lq.out.below hV) (HB.out.below HG.out hV);rw[HMY.out]at k;exact k)
   have CKP:Hid (∀V,Below U6.heap.size U6 V→Calls Tryz.prog 19 #[.agg #[.slice pq 1 cq,.string ⟨qn.toArray⟩,.string ⟨qd.toArray⟩],.string ⟨ast.toArray⟩] V (GiveB V false)):=zh (fun V hV=>by
    have k:=HB.out.keeps pq cq ⟨[x],(qn,qd)⟩ ast V hcq (by simp) (Lq.out.below hV) (HB.out.below HG.out hV);rw[hkp]at k;exact k)
   clear hkp HM2 HMY HKP HSP
   (try simp only[List.length_cons,List.length_nil,Nat.zero_add,Nat.reduceAdd]at rp0 rp1 rp2)
   (try go_wp2_with fail)
   have hB:=zh (Nat.le_refl U6.heap.size);refine wp_region_noPanic ?_;refine wp_region_held_drew (S:=fun w'=>Below U6.heap.size U6 w') (by kernel_rfl) (b6.drew) (fun hH0=>?_);refine wpAnyH_take (i:=0) (v:=?_) rfl (by kernel_rfl) (by kernel_rfl) (by kernel_rfl) (fun _ _ _ h=>h) (Or.inl ⟨by rfl,?_⟩) (by assumption) ?_;rotate_left 1
   ·(intro w hSw;(try dsimp only at hSw);go_simp<;>(with_reducible rfl))
   try simp only[Act.put,qA,qB,qC,qD,qE,qF]
   refine wpAnyH_take (i:=1) (v:=?_) rfl (by kernel_rfl) (by kernel_rfl) (by kernel_rfl) (fun _ _ _ h=>h) (Or.inl ⟨by rfl,?_⟩) (by assumption) ?_;rotate_left 1
   ·(intro w hSw;(try dsimp only at hSw);go_simp<;>(with_reducible rfl))
   try simp only[Act.put,qA,qB,qC,qD,qE,qF]
   refine wpAnyH_take (i:=2) (v:=?_) rfl (by kernel_rfl) (by kernel_rfl) (by kernel_rfl) (fun _ _ _ h=>h) (Or.inl ⟨by rfl,?_⟩) (by assumption) ?_;rotate_left 1
   ·(intro w hSw;(try dsimp only at hSw);go_simp<;>(with_reducible rfl))
   try simp only[Act.put,qA,qB,qC,qD,qE,qF]
   refine wpAnyH_take (i:=3) (v:=?_) rfl (by kernel_rfl) (by kernel_rfl) (by kernel_rfl) (fun _ _ _ h=>h) (Or.inl ⟨by rfl,?_⟩) (by assumption) ?_;rotate_left 1
   ·(intro w hSw;(try dsimp only at hSw);go_simp<;>(with_reducible rfl))
   try simp only[Act.put,qA,qB,qC,qD,qE,qF]
   refine wpAnyH_take (i:=4) (v:=?_) rfl (by kernel_rfl) (by kernel_rfl) (by kernel_rfl) (fun _ _ _ h=>h) (Or.inl ⟨by rfl,?_⟩) (by assumption) ?_;rotate_left 1
   ·(intro w hSw;(try dsimp only at hSw);go_simp<;>(with_reducible rfl))
   try simp only[Act.put,qA,qB,qC,qD,qE,qF]
   refine wpAnyH_take (i:=5) (v:=?_) rfl (by kernel_rfl) (by kernel_rfl) (by kernel_rfl) (fun _ _ _ h=>h) (Or.inl ⟨by rfl,?_⟩) (by assumption) ?_;rotate_left 1
   ·(intro w hSw;(try dsimp only at hSw);go_simp<;>(with_reducible rfl))
   try simp only[Act.put,qA,qB,qC,qD,qE,qF]
   refine wpAnyH_take (i:=6) (v:=?_) rfl (by kernel_rfl) (by kernel_rfl) (by kernel_rfl) (fun _ _ _ h=>h) (Or.inl ⟨by rfl,?_⟩) (by assumption) ?_;rotate_left 1
   ·(intro w hSw;(try dsimp only at hSw);go_simp<;>(with_reducible rfl))
   try simp only[Act.put,qA,qB,qC,qD,qE,qF]
   refine wpAnyH_take (i:=7) (v:=?_) rfl (by kernel_rfl) (by kernel_rfl) (by kernel_rfl) (fun _ _ _ h=>h) (Or.inl ⟨by rfl,?_⟩) (by assumption) ?_;rotate_left 1
   ·(intro w hSw;(try dsimp only at hSw);go_simp<;>(with_reducible rfl))
   try simp only[Act.put,qA,qB,qC,qD,qE,qF]
   refine wpAnyH_take (i:=8) (v:=?_) rfl (by kernel_rfl) (by kernel_rfl) (by kernel_rfl) (fun _ _ _ h=>h) (Or.inl ⟨by rfl,?_⟩) (by assumption) ?_;rotate_left 1
   ·(intro w hSw;(try dsimp only at hSw);go_simp<;>(with_reducible rfl))
   try simp only[Act.put,qA,qB,qC,qD,qE,qF]
   refine wpAnyH_take (i:=9) (v:=?_) rfl (by kernel_rfl) (by kernel_rfl) (by kernel_rfl) (fun _ _ _ h=>h) (Or.inl ⟨by rfl,?_⟩) (by assumption) ?_;rotate_left 1
   ·(intro w hSw;(try dsimp only at hSw);go_simp<;>(with_reducible rfl))
   try simp only[Act.put,qA,qB,qC,qD,qE,qF]
   refine wpAnyH_take (i:=10) (v:=?_) rfl (by kernel_rfl) (by kernel_rfl) (by kernel_rfl) (fun _ _ _ h=>h) (Or.inl ⟨by rfl,?_⟩) (by assumption) ?_;rotate_left 1
   ·(intro w hSw;(try dsimp only at hSw);go_simp<;>(with_reducible rfl))
   try simp only[Act.put,qA,qB,qC,qD,qE,qF]
   refine wpAnyH_take (i:=11) (v:=?_) rfl (by kernel_rfl) (by kernel_rfl) (by kernel_rfl) (fun _ _ _ h=>h) (Or.inl ⟨by rfl,?_⟩) (by assumption) ?_;rotate_left 1
   ·(intro w hSw;(try dsimp only at hSw);go_simp<;>(with_reducible rfl))
   try simp only[Act.put,qA,qB,qC,qD,qE,qF]
   refine wpAnyH_take (i:=12) (v:=?_) rfl (by kernel_rfl) (by kernel_rfl) (by kernel_rfl) (fun _ _ _ h=>h) (Or.inl ⟨by rfl,?_⟩) (by assumption) ?_;rotate_left 1
   ·(intro w hSw;(try dsimp only at hSw);go_simp<;>(with_reducible rfl))
   try simp only[Act.put,qA,qB,qC,qD,qE,qF]
   refine wpAnyH_take (i:=13) (v:=?_) rfl (by kernel_rfl) (by kernel_rfl) (by kernel_rfl) (fun _ _ _ h=>h) (Or.inl ⟨by rfl,?_⟩) (by assumption) ?_;rotate_left 1
   ·(intro w hSw;(try dsimp only at hSw);go_simp<;>(with_reducible rfl))
   try simp only[Act.put,qA,qB,qC,qD,qE,qF]
   refine wpAnyH_take (i:=14) (v:=?_) rfl (by kernel_rfl) (by kernel_rfl) (by kernel_rfl) (fun _ _ _ h=>h) (Or.inl ⟨by rfl,?_⟩) (by assumption) ?_;rotate_left 1
   ·(intro w hSw;(try dsimp only at hSw);go_simp<;>(with_reducible rfl))
   try simp only[Act.put,qA,qB,qC,qD,qE,qF]
   refine wpAnyH_ready (rs:=[15]) (by kernel_rfl) (by simp) ?_;refine AllReadyH.cons rfl (fun K hK=>?_) AllReadyH.nil
   go_simp
   refine(held (W:=U6) hB.out (pk_o (n:=1) (l:=[49]) (by decide) (by decide) (by decide +kernel) _) (by assumption)).mono ?_;rintro e x1 ⟨rfl,hb,hw⟩
   (try go_wp2_with fail)
   refine hK.out _ _ hw (fun hH1=>?_);clear hK hH0 hb hw
   try simp only[Act.put,qA,qB,qC,qD,qE,qF]
   refine wpAnyH_take (i:=16) (v:=?_) rfl (by kernel_rfl) (by kernel_rfl) (by kernel_rfl) (fun _ _ _ h=>h) (Or.inl ⟨by rfl,?_⟩) (by assumption) ?_;rotate_left 1
   ·(intro w hSw;(try dsimp only at hSw);go_simp<;>(with_reducible rfl))
   try simp only[Act.put,qA,qB,qC,qD,qE,qF]
   refine wpAnyH_take (i:=17) (v:=?_) rfl (by kernel_rfl) (by kernel_rfl) (by kernel_rfl) (fun _ _ _ h=>h) (Or.inl ⟨by rfl,?_⟩) (by assumption) ?_;rotate_left 1
   ·(intro w hSw;(try dsimp only at hSw);go_simp<;>(with_reducible rfl))
   try simp only[Act.put,qA,qB,qC,qD,qE,qF]
   refine wpAnyH_take (i:=18) (v:=?_) rfl (by kernel_rfl) (by kernel_rfl) (by kernel_rfl) (fun _ _ _ h=>h) (Or.inl ⟨by rfl,?_⟩) (by assumption) ?_;rotate_left 1
   ·(intro w hSw;(try dsimp only at hSw);go_simp<;>(with_reducible rfl))
   try simp only[Act.put,qA,qB,qC,qD,qE,qF]
   refine wpAnyH_take (i:=19) (v:=?_) rfl (by kernel_rfl) (by kernel_rfl) (by kernel_rfl) (fun _ _ _ h=>h) (Or.inl ⟨by rfl,?_⟩) (by assumption) ?_;rotate_left 1
   ·(intro w hSw;(try dsimp only at hSw);go_simp<;>(with_reducible rfl))
   try simp only[Act.put,qA,qB,qC,qD,qE,qF]
   refine wpAnyH_done (by kernel_rfl) ?_ _;refine NoPanic.normal ?_;have b7:=hH1;clear hH1;clear hB;go_wp2_with fail;refine(CMP.out _ b7).mono ?_;rintro e w8 ⟨rfl,b⟩;have b8:=Below.more b7 b;clear b;go_wp2_with fail;refine(CKP.out _ b8).mono ?_;rintro e w9 ⟨rfl,b⟩;have b9:=Below.more b8 b;clear b;go_wp2_with fail;go_ret;exact⟨ret_bool (by first|rfl|simp|decide),Below.more BW b9⟩
  | true =>
  obtain rfl:=beq_iff_eq.1 e2;clear e2;obtain⟨x,rfl⟩:∃x,ps=[x]:=List.length_eq_one_iff.1 (by rw[HM2.out];rfl);have hkp:keepsP ⟨[x],(qn,qd)⟩ ast=true:=by rw[HKP.out];simp[*]
  have CMP:Hid (∀V,Below U6.heap.size U6 V→Calls Tryz.prog 17 #[.agg #[.slice pq 1 cq,.string ⟨qn.toArray⟩,.string ⟨qd.toArray⟩]] V (GiveB V true)):=zh (fun V hV=>by
   have k:=HB.out.may pq cq ⟨[x],(qn,qd)⟩ V hcq (by simp) (HSP.out.mono (by decide)) (Lq.out.below hV) (HB.out.below HG.out hV);rw[HMY.out]at k;exact k)
  have CKP:Hid (∀V,Below U6.heap.size U6 V→Calls Tryz.prog 19 #[.agg #[.slice pq 1 cq,.string ⟨qn.toArray⟩,.string ⟨qd.toArray⟩],.string ⟨ast.toArray⟩] V (GiveB V true)):=zh (fun V hV=>by
   have k:=HB.out.keeps pq cq ⟨[x],(qn,qd)⟩ ast V hcq (by simp) (Lq.out.below hV) (HB.out.below HG.out hV);rw[hkp]at k;exact k)
  clear hkp HM2 HMY HKP HSP
  (try simp only[List.length_cons,List.length_nil,Nat.zero_add,Nat.reduceAdd]at rp0 rp1 rp2)
  (try go_wp2_with fail)
  have hB:=zh (Nat.le_refl U6.heap.size);refine wp_region_noPanic ?_;refine wp_region_held_drew (S:=fun w'=>Below U6.heap.size U6 w') (by kernel_rfl) (b6.drew) (fun hH0=>?_);refine wpAnyH_take (i:=0) (v:=?_) rfl (by kernel_rfl) (by kernel_rfl) (by kernel_rfl) (fun _ _ _ h=>h) (Or.inl ⟨by rfl,?_⟩) (by assumption) ?_;rotate_left 1
  ·(intro w hSw;(try dsimp only at hSw);go_simp<;>(with_reducible rfl))
  try simp only[Act.put,qA,qB,qC,qD,qE,qF]
  refine wpAnyH_take (i:=1) (v:=?_) rfl (by kernel_rfl) (by kernel_rfl) (by kernel_rfl) (fun _ _ _ h=>h) (Or.inl ⟨by rfl,?_⟩) (by assumption) ?_;rotate_left 1
  ·(intro w hSw;(try dsimp only at hSw);go_simp<;>(with_reducible rfl))
  try simp only[Act.put,qA,qB,qC,qD,qE,qF]
  refine wpAnyH_take (i:=2) (v:=?_) rfl (by kernel_rfl) (by kernel_rfl) (by kernel_rfl) (fun _ _ _ h=>h) (Or.inl ⟨by rfl,?_⟩) (by assumption) ?_;rotate_left 1
  ·(intro w hSw;(try dsimp only at hSw);go_simp<;>(with_reducible rfl))
  try simp only[Act.put,qA,qB,qC,qD,qE,qF]
  refine wpAnyH_take (i:=3) (v:=?_) rfl (by kernel_rfl) (by kernel_rfl) (by kernel_rfl) (fun _ _ _ h=>h) (Or.inl ⟨by rfl,?_⟩) (by assumption) ?_;rotate_left 1
  ·(intro w hSw;(try dsimp only at hSw);go_simp<;>(with_reducible rfl))
  try simp only[Act.put,qA,qB,qC,qD,qE,qF]
  refine wpAnyH_take (i:=4) (v:=?_) rfl (by kernel_rfl) (by kernel_rfl) (by kernel_rfl) (fun _ _ _ h=>h) (Or.inl ⟨by rfl,?_⟩) (by assumption) ?_;rotate_left 1
  ·(intro w hSw;(try dsimp only at hSw);go_simp<;>(with_reducible rfl))
  try simp only[Act.put,qA,qB,qC,qD,qE,qF]
  refine wpAnyH_take (i:=5) (v:=?_) rfl (by kernel_rfl) (by kernel_rfl) (by kernel_rfl) (fun _ _ _ h=>h) (Or.inl ⟨by rfl,?_⟩) (by assumption) ?_;rotate_left 1
  ·(intro w hSw;(try dsimp only at hSw);go_simp<;>(with_reducible rfl))
  try simp only[Act.put,qA,qB,qC,qD,qE,qF]
  refine wpAnyH_take (i:=6) (v:=?_) rfl (by kernel_rfl) (by kernel_rfl) (by kernel_rfl) (fun _ _ _ h=>h) (Or.inl ⟨by rfl,?_⟩) (by assumption) ?_;rotate_left 1
  ·(intro w hSw;(try dsimp only at hSw);go_simp<;>(with_reducible rfl))
  try simp only[Act.put,qA,qB,qC,qD,qE,qF]
  refine wpAnyH_take (i:=7) (v:=?_) rfl (by kernel_rfl) (by kernel_rfl) (by kernel_rfl) (fun _ _ _ h=>h) (Or.inl ⟨by rfl,?_⟩) (by assumption) ?_;rotate_left 1
  ·(intro w hSw;(try dsimp only at hSw);go_simp<;>(with_reducible rfl))
  try simp only[Act.put,qA,qB,qC,qD,qE,qF]
  refine wpAnyH_take (i:=8) (v:=?_) rfl (by kernel_rfl) (by kernel_rfl) (by kernel_rfl) (fun _ _ _ h=>h) (Or.inl ⟨by rfl,?_⟩) (by assumption) ?_;rotate_left 1
  ·(intro w hSw;(try dsimp only at hSw);go_simp<;>(with_reducible rfl))
  try simp only[Act.put,qA,qB,qC,qD,qE,qF]
  refine wpAnyH_take (i:=9) (v:=?_) rfl (by kernel_rfl) (by kernel_rfl) (by kernel_rfl) (fun _ _ _ h=>h) (Or.inl ⟨by rfl,?_⟩) (by assumption) ?_;rotate_left 1
  ·(intro w hSw;(try dsimp only at hSw);go_simp<;>(with_reducible rfl))
  try simp only[Act.put,qA,qB,qC,qD,qE,qF]
  refine wpAnyH_take (i:=10) (v:=?_) rfl (by kernel_rfl) (by kernel_rfl) (by kernel_rfl) (fun _ _ _ h=>h) (Or.inl ⟨by rfl,?_⟩) (by assumption) ?_;rotate_left 1
  ·(intro w hSw;(try dsimp only at hSw);go_simp<;>(with_reducible rfl))
  try simp only[Act.put,qA,qB,qC,qD,qE,qF]
  refine wpAnyH_take (i:=11) (v:=?_) rfl (by kernel_rfl) (by kernel_rfl) (by kernel_rfl) (fun _ _ _ h=>h) (Or.inl ⟨by rfl,?_⟩) (by assumption) ?_;rotate_left 1
  ·(intro w hSw;(try dsimp only at hSw);go_simp<;>(with_reducible rfl))
  try simp only[Act.put,qA,qB,qC,qD,qE,qF]
  refine wpAnyH_take (i:=12) (v:=?_) rfl (by kernel_rfl) (by kernel_rfl) (by kernel_rfl) (fun _ _ _ h=>h) (Or.inl ⟨by rfl,?_⟩) (by assumption) ?_;rotate_left 1
  ·(intro w hSw;(try dsimp only at hSw);go_simp<;>(with_reducible rfl))
  try simp only[Act.put,qA,qB,qC,qD,qE,qF]
  refine wpAnyH_take (i:=13) (v:=?_) rfl (by kernel_rfl) (by kernel_rfl) (by kernel_rfl) (fun _ _ _ h=>h) (Or.inl ⟨by rfl,?_⟩) (by assumption) ?_;rotate_left 1
  ·(intro w hSw;(try dsimp only at hSw);go_simp<;>(with_reducible rfl))
  try simp only[Act.put,qA,qB,qC,qD,qE,qF]
  refine wpAnyH_take (i:=14) (v:=?_) rfl (by kernel_rfl) (by kernel_rfl) (by kernel_rfl) (fun _ _ _ h=>h) (Or.inl ⟨by rfl,?_⟩) (by assumption) ?_;rotate_left 1
  ·(intro w hSw;(try dsimp only at hSw);go_simp<;>(with_reducible rfl))
  try simp only[Act.put,qA,qB,qC,qD,qE,qF]
  refine wpAnyH_ready (rs:=[15]) (by kernel_rfl) (by simp) ?_;refine AllReadyH.cons rfl (fun K hK=>?_) AllReadyH.nil
  go_simp
  refine(held (W:=U6) hB.out (pk_o (n:=1) (l:=[49]) (by decide) (by decide) (by decide +kernel) _) (by assumption)).mono ?_;rintro e x1 ⟨rfl,hb,hw⟩
  (try go_wp2_with fail)
  refine hK.out _ _ hw (fun hH1=>?_);clear hK hH0 hb hw
  try simp only[Act.put,qA,qB,qC,qD,qE,qF]
  refine wpAnyH_take (i:=16) (v:=?_) rfl (by kernel_rfl) (by kernel_rfl) (by kernel_rfl) (fun _ _ _ h=>h) (Or.inl ⟨by rfl,?_⟩) (by assumption) ?_;rotate_left 1
  ·(intro w hSw;(try dsimp only at hSw);go_simp<;>(with_reducible rfl))
  try simp only[Act.put,qA,qB,qC,qD,qE,qF]
  refine wpAnyH_take (i:=17) (v:=?_) rfl (by kernel_rfl) (by kernel_rfl) (by kernel_rfl) (fun _ _ _ h=>h) (Or.inl ⟨by rfl,?_⟩) (by assumption) ?_;rotate_left 1
  ·(intro w hSw;(try dsimp only at hSw);go_simp<;>(with_reducible rfl))
  try simp only[Act.put,qA,qB,qC,qD,qE,qF]
  refine wpAnyH_take (i:=18) (v:=?_) rfl (by kernel_rfl) (by kernel_rfl) (by kernel_rfl) (fun _ _ _ h=>h) (Or.inl ⟨by rfl,?_⟩) (by assumption) ?_;rotate_left 1
  ·(intro w hSw;(try dsimp only at hSw);go_simp<;>(with_reducible rfl))
  try simp only[Act.put,qA,qB,qC,qD,qE,qF]
  refine wpAnyH_take (i:=19) (v:=?_) rfl (by kernel_rfl) (by kernel_rfl) (by kernel_rfl) (fun _ _ _ h=>h) (Or.inl ⟨by rfl,?_⟩) (by assumption) ?_;rotate_left 1
  ·(intro w hSw;(try dsimp only at hSw);go_simp<;>(with_reducible rfl))
  try simp only[Act.put,qA,qB,qC,qD,qE,qF]
  refine wpAnyH_done (by kernel_rfl) ?_ _;refine NoPanic.normal ?_;have b7:=hH1;clear hH1;clear hB;go_wp2_with fail;refine(CMP.out _ b7).mono ?_;rintro e w8 ⟨rfl,b⟩;have b8:=Below.more b7 b;clear b;go_wp2_with fail;refine(CKP.out _ b8).mono ?_;rintro e w9 ⟨rfl,b⟩;have b9:=Below.more b8 b;clear b;go_wp2_with fail;go_ret;exact⟨ret_bool (by first|rfl|simp|decide),Below.more BW b9⟩
 ·obtain⟨x,rfl⟩:∃x,ps=[x]:=List.length_eq_one_iff.1 (by rw[HM2.out];rfl);have hkp:keepsP ⟨[x],(qn,qd)⟩ ast=false:=by rw[HKP.out];simp[*]
  have CMP:Hid (∀V,Below U6.heap.size U6 V→Calls Tryz.prog 17 #[.agg #[.slice pq 1 cq,.string ⟨qn.toArray⟩,.string ⟨qd.toArray⟩]] V (GiveB V true)):=zh (fun V hV=>by
   have k:=HB.out.may pq cq ⟨[x],(qn,qd)⟩ V hcq (by simp) (HSP.out.mono (by decide)) (Lq.out.below hV) (HB.out.below HG.out hV);rw[HMY.out]at k;exact k)
  have CKP:Hid (∀V,Below U6.heap.size U6 V→Calls Tryz.prog 19 #[.agg #[.slice pq 1 cq,.string ⟨qn.toArray⟩,.string ⟨qd.toArray⟩],.string ⟨ast.toArray⟩] V (GiveB V false)):=zh (fun V hV=>by
   have k:=HB.out.keeps pq cq ⟨[x],(qn,qd)⟩ ast V hcq (by simp) (Lq.out.below hV) (HB.out.below HG.out hV);rw[hkp]at k;exact k)
  clear hkp HM2 HMY HKP HSP
  (try simp only[List.length_cons,List.length_nil,Nat.zero_add,Nat.reduceAdd]at rp0 rp1 rp2)
  (try go_wp2_with fail)
  have hB:=zh (Nat.le_refl U6.heap.size);refine wp_region_noPanic ?_;refine wp_region_held_drew (S:=fun w'=>Below U6.heap.size U6 w') (by kernel_rfl) (b6.drew) (fun hH0=>?_);refine wpAnyH_take (i:=0) (v:=?_) rfl (by kernel_rfl) (by kernel_rfl) (by kernel_rfl) (fun _ _ _ h=>h) (Or.inl ⟨by rfl,?_⟩) (by assumption) ?_;rotate_left 1
  ·(intro w hSw;(try dsimp only at hSw);go_simp<;>(with_reducible rfl))
  try simp only[Act.put,qA,qB,qC,qD,qE,qF]
  refine wpAnyH_take (i:=1) (v:=?_) rfl (by kernel_rfl) (by kernel_rfl) (by kernel_rfl) (fun _ _ _ h=>h) (Or.inl ⟨by rfl,?_⟩) (by assumption) ?_;rotate_left 1
  ·(intro w hSw;(try dsimp only at hSw);go_simp<;>(with_reducible rfl))
  try simp only[Act.put,qA,qB,qC,qD,qE,qF]
  refine wpAnyH_take (i:=2) (v:=?_) rfl (by kernel_rfl) (by kernel_rfl) (by kernel_rfl) (fun _ _ _ h=>h) (Or.inl ⟨by rfl,?_⟩) (by assumption) ?_;rotate_left 1
  ·(intro w hSw;(try dsimp only at hSw);go_simp<;>(with_reducible rfl))
  try simp only[Act.put,qA,qB,qC,qD,qE,qF]
  refine wpAnyH_take (i:=3) (v:=?_) rfl (by kernel_rfl) (by kernel_rfl) (by kernel_rfl) (fun _ _ _ h=>h) (Or.inl ⟨by rfl,?_⟩) (by assumption) ?_;rotate_left 1
  ·(intro w hSw;(try dsimp only at hSw);go_simp<;>(with_reducible rfl))
  try simp only[Act.put,qA,qB,qC,qD,qE,qF]
  refine wpAnyH_take (i:=4) (v:=?_) rfl (by kernel_rfl) (by kernel_rfl) (by kernel_rfl) (fun _ _ _ h=>h) (Or.inl ⟨by rfl,?_⟩) (by assumption) ?_;rotate_left 1
  ·(intro w hSw;(try dsimp only at hSw);go_simp<;>(with_reducible rfl))
  try simp only[Act.put,qA,qB,qC,qD,qE,qF]
  refine wpAnyH_take (i:=5) (v:=?_) rfl (by kernel_rfl) (by kernel_rfl) (by kernel_rfl) (fun _ _ _ h=>h) (Or.inl ⟨by rfl,?_⟩) (by assumption) ?_;rotate_left 1
  ·(intro w hSw;(try dsimp only at hSw);go_simp<;>(with_reducible rfl))
  try simp only[Act.put,qA,qB,qC,qD,qE,qF]
  refine wpAnyH_take (i:=6) (v:=?_) rfl (by kernel_rfl) (by kernel_rfl) (by kernel_rfl) (fun _ _ _ h=>h) (Or.inl ⟨by rfl,?_⟩) (by assumption) ?_;rotate_left 1
  ·(intro w hSw;(try dsimp only at hSw);go_simp<;>(with_reducible rfl))
  try simp only[Act.put,qA,qB,qC,qD,qE,qF]
  refine wpAnyH_take (i:=7) (v:=?_) rfl (by kernel_rfl) (by kernel_rfl) (by kernel_rfl) (fun _ _ _ h=>h) (Or.inl ⟨by rfl,?_⟩) (by assumption) ?_;rotate_left 1
  ·(intro w hSw;(try dsimp only at hSw);go_simp<;>(with_reducible rfl))
  try simp only[Act.put,qA,qB,qC,qD,qE,qF]
  refine wpAnyH_take (i:=8) (v:=?_) rfl (by kernel_rfl) (by kernel_rfl) (by kernel_rfl) (fun _ _ _ h=>h) (Or.inl ⟨by rfl,?_⟩) (by assumption) ?_;rotate_left 1
  ·(intro w hSw;(try dsimp only at hSw);go_simp<;>(with_reducible rfl))
  try simp only[Act.put,qA,qB,qC,qD,qE,qF]
  refine wpAnyH_take (i:=9) (v:=?_) rfl (by kernel_rfl) (by kernel_rfl) (by kernel_rfl) (fun _ _ _ h=>h) (Or.inl ⟨by rfl,?_⟩) (by assumption) ?_;rotate_left 1
  ·(intro w hSw;(try dsimp only at hSw);go_simp<;>(with_reducible rfl))
  try simp only[Act.put,qA,qB,qC,qD,qE,qF]
  refine wpAnyH_take (i:=10) (v:=?_) rfl (by kernel_rfl) (by kernel_rfl) (by kernel_rfl) (fun _ _ _ h=>h) (Or.inl ⟨by rfl,?_⟩) (by assumption) ?_;rotate_left 1
  ·(intro w hSw;(try dsimp only at hSw);go_simp<;>(with_reducible rfl))
  try simp only[Act.put,qA,qB,qC,qD,qE,qF]
  refine wpAnyH_take (i:=11) (v:=?_) rfl (by kernel_rfl) (by kernel_rfl) (by kernel_rfl) (fun _ _ _ h=>h) (Or.inl ⟨by rfl,?_⟩) (by assumption) ?_;rotate_left 1
  ·(intro w hSw;(try dsimp only at hSw);go_simp<;>(with_reducible rfl))
  try simp only[Act.put,qA,qB,qC,qD,qE,qF]
  refine wpAnyH_take (i:=12) (v:=?_) rfl (by kernel_rfl) (by kernel_rfl) (by kernel_rfl) (fun _ _ _ h=>h) (Or.inl ⟨by rfl,?_⟩) (by assumption) ?_;rotate_left 1
  ·(intro w hSw;(try dsimp only at hSw);go_simp<;>(with_reducible rfl))
  try simp only[Act.put,qA,qB,qC,qD,qE,qF]
  refine wpAnyH_take (i:=13) (v:=undef) rfl (by kernel_rfl) (by kernel_rfl) (by kernel_rfl) (fun _ _ _ h=>h) (Or.inr ⟨by rfl,rfl⟩) (by assumption) ?_
  try simp only[Act.put,qA,qB,qC,qD,qE,qF]
  refine wpAnyH_take (i:=14) (v:=undef) rfl (by kernel_rfl) (by kernel_rfl) (by kernel_rfl) (fun _ _ _ h=>h) (Or.inr ⟨by rfl,rfl⟩) (by assumption) ?_
  try simp only[Act.put,qA,qB,qC,qD,qE,qF]
  refine wpAnyH_take (i:=15) (v:=undef) rfl (by kernel_rfl) (by kernel_rfl) (by kernel_rfl) (fun _ _ _ h=>h) (Or.inr ⟨by rfl,rfl⟩) (by assumption) ?_
  try simp only[Act.put,qA,qB,qC,qD,qE,qF]
  refine wpAnyH_take (i:=16) (v:=undef) rfl (by kernel_rfl) (by kernel_rfl) (by kernel_rfl) (fun _ _ _ h=>h) (Or.inr ⟨by rfl,rfl⟩) (by assumption) ?_
  try simp only[Act.put,qA,qB,qC,qD,qE,qF]
  refine wpAnyH_take (i:=17) (v:=?_) rfl (by kernel_rfl) (by kernel_rfl) (by kernel_rfl) (fun _ _ _ h=>h) (Or.inl ⟨by rfl,?_⟩) (by assumption) ?_;rotate_left 1
  ·(intro w hSw;(try dsimp only at hSw);go_simp<;>(with_reducible rfl))
  try simp only[Act.put,qA,qB,qC,qD,qE,qF]
  refine wpAnyH_take (i:=18) (v:=?_) rfl (by kernel_rfl) (by kernel_rfl) (by kernel_rfl) (fun _ _ _ h=>h) (Or.inl ⟨by rfl,?_⟩) (by assumption) ?_;rotate_left 1
  ·(intro w hSw;(try dsimp only at hSw);go_simp<;>(with_reducible rfl))
  try simp only[Act.put,qA,qB,qC,qD,qE,qF]
  refine wpAnyH_take (i:=19) (v:=?_) rfl (by kernel_rfl) (by kernel_rfl) (by kernel_rfl) (fun _ _ _ h=>h) (Or.inl ⟨by rfl,?_⟩) (by assumption) ?_;rotate_left 1
  ·(intro w hSw;(try dsimp only at hSw);go_simp<;>(with_reducible rfl))
  try simp only[Act.put,qA,qB,qC,qD,qE,qF]
  refine wpAnyH_done (by kernel_rfl) ?_ _;refine NoPanic.normal ?_;have b7:=hH0;clear hH0;clear hB;go_wp2_with fail;refine(CMP.out _ b7).mono ?_;rintro e w8 ⟨rfl,b⟩;have b8:=Below.more b7 b;clear b;go_wp2_with fail;refine(CKP.out _ b8).mono ?_;rintro e w9 ⟨rfl,b⟩;have b9:=Below.more b8 b;clear b;go_wp2_with fail;go_ret;exact⟨ret_bool (by first|rfl|simp|decide),Below.more BW b9⟩
 ·obtain⟨x,rfl⟩:∃x,ps=[x]:=List.length_eq_one_iff.1 (by rw[HM2.out];rfl);have hkp:keepsP ⟨[x],(qn,qd)⟩ ast=true:=by rw[HKP.out];simp[*]
  have CMP:Hid (∀V,Below U6.heap.size U6 V→Calls Tryz.prog 17 #[.agg #[.slice pq 1 cq,.string ⟨qn.toArray⟩,.string ⟨qd.toArray⟩]] V (GiveB V true)):=zh (fun V hV=>by
   have k:=HB.out.may pq cq ⟨[x],(qn,qd)⟩ V hcq (by simp) (HSP.out.mono (by decide)) (Lq.out.below hV) (HB.out.below HG.out hV);rw[HMY.out]at k;exact k)
  have CKP:Hid (∀V,Below U6.heap.size U6 V→Calls Tryz.prog 19 #[.agg #[.slice pq 1 cq,.string ⟨qn.toArray⟩,.string ⟨qd.toArray⟩],.string ⟨ast.toArray⟩] V (GiveB V true)):=zh (fun V hV=>by
   have k:=HB.out.keeps pq cq ⟨[x],(qn,qd)⟩ ast V hcq (by simp) (Lq.out.below hV) (HB.out.below HG.out hV);rw[hkp]at k;exact k)
  clear hkp HM2 HMY HKP HSP
  (try simp only[List.length_cons,List.length_nil,Nat.zero_add,Nat.reduceAdd]at rp0 rp1 rp2)
  (try go_wp2_with fail)
  have hB:=zh (Nat.le_refl U6.heap.size);refine wp_region_noPanic ?_;refine wp_region_held_drew (S:=fun w'=>Below U6.heap.size U6 w') (by kernel_rfl) (b6.drew) (fun hH0=>?_);refine wpAnyH_take (i:=0) (v:=?_) rfl (by kernel_rfl) (by kernel_rfl) (by kernel_rfl) (fun _ _ _ h=>h) (Or.inl ⟨by rfl,?_⟩) (by assumption) ?_;rotate_left 1
  ·(intro w hSw;(try dsimp only at hSw);go_simp<;>(with_reducible rfl))
  try simp only[Act.put,qA,qB,qC,qD,qE,qF]
  refine wpAnyH_take (i:=1) (v:=?_) rfl (by kernel_rfl) (by kernel_rfl) (by kernel_rfl) (fun _ _ _ h=>h) (Or.inl ⟨by rfl,?_⟩) (by assumption) ?_;rotate_left 1
  ·(intro w hSw;(try dsimp only at hSw);go_simp<;>(with_reducible rfl))
  try simp only[Act.put,qA,qB,qC,qD,qE,qF]
  refine wpAnyH_take (i:=2) (v:=?_) rfl (by kernel_rfl) (by kernel_rfl) (by kernel_rfl) (fun _ _ _ h=>h) (Or.inl ⟨by rfl,?_⟩) (by assumption) ?_;rotate_left 1
  ·(intro w hSw;(try dsimp only at hSw);go_simp<;>(with_reducible rfl))
  try simp only[Act.put,qA,qB,qC,qD,qE,qF]
  refine wpAnyH_take (i:=3) (v:=?_) rfl (by kernel_rfl) (by kernel_rfl) (by kernel_rfl) (fun _ _ _ h=>h) (Or.inl ⟨by rfl,?_⟩) (by assumption) ?_;rotate_left 1
  ·(intro w hSw;(try dsimp only at hSw);go_simp<;>(with_reducible rfl))
  try simp only[Act.put,qA,qB,qC,qD,qE,qF]
  refine wpAnyH_take (i:=4) (v:=undef) rfl (by kernel_rfl) (by kernel_rfl) (by kernel_rfl) (fun _ _ _ h=>h) (Or.inr ⟨by rfl,rfl⟩) (by assumption) ?_
  try simp only[Act.put,qA,qB,qC,qD,qE,qF]
  refine wpAnyH_take (i:=5) (v:=undef) rfl (by kernel_rfl) (by kernel_rfl) (by kernel_rfl) (fun _ _ _ h=>h) (Or.inr ⟨by rfl,rfl⟩) (by assumption) ?_
  try simp only[Act.put,qA,qB,qC,qD,qE,qF]
  refine wpAnyH_take (i:=6) (v:=undef) rfl (by kernel_rfl) (by kernel_rfl) (by kernel_rfl) (fun _ _ _ h=>h) (Or.inr ⟨by rfl,rfl⟩) (by assumption) ?_
  try simp only[Act.put,qA,qB,qC,qD,qE,qF]
  refine wpAnyH_take (i:=7) (v:=?_) rfl (by kernel_rfl) (by kernel_rfl) (by kernel_rfl) (fun _ _ _ h=>h) (Or.inl ⟨by rfl,?_⟩) (by assumption) ?_;rotate_left 1
  ·(intro w hSw;(try dsimp only at hSw);go_simp<;>(with_reducible rfl))
  try simp only[Act.put,qA,qB,qC,qD,qE,qF]
  refine wpAnyH_take (i:=8) (v:=?_) rfl (by kernel_rfl) (by kernel_rfl) (by kernel_rfl) (fun _ _ _ h=>h) (Or.inl ⟨by rfl,?_⟩) (by assumption) ?_;rotate_left 1
  ·(intro w hSw;(try dsimp only at hSw);go_simp<;>(with_reducible rfl))
  try simp only[Act.put,qA,qB,qC,qD,qE,qF]
  refine wpAnyH_take (i:=9) (v:=undef) rfl (by kernel_rfl) (by kernel_rfl) (by kernel_rfl) (fun _ _ _ h=>h) (Or.inr ⟨by rfl,rfl⟩) (by assumption) ?_
  try simp only[Act.put,qA,qB,qC,qD,qE,qF]
  refine wpAnyH_take (i:=10) (v:=undef) rfl (by kernel_rfl) (by kernel_rfl) (by kernel_rfl) (fun _ _ _ h=>h) (Or.inr ⟨by rfl,rfl⟩) (by assumption) ?_
  try simp only[Act.put,qA,qB,qC,qD,qE,qF]
  refine wpAnyH_take (i:=11) (v:=undef) rfl (by kernel_rfl) (by kernel_rfl) (by kernel_rfl) (fun _ _ _ h=>h) (Or.inr ⟨by rfl,rfl⟩) (by assumption) ?_
  try simp only[Act.put,qA,qB,qC,qD,qE,qF]
  refine wpAnyH_take (i:=12) (v:=undef) rfl (by kernel_rfl) (by kernel_rfl) (by kernel_rfl) (fun _ _ _ h=>h) (Or.inr ⟨by rfl,rfl⟩) (by assumption) ?_
  try simp only[Act.put,qA,qB,qC,qD,qE,qF]
  refine wpAnyH_take (i:=13) (v:=undef) rfl (by kernel_rfl) (by kernel_rfl) (by kernel_rfl) (fun _ _ _ h=>h) (Or.inr ⟨by rfl,rfl⟩) (by assumption) ?_
  try simp only[Act.put,qA,qB,qC,qD,qE,qF]
  refine wpAnyH_take (i:=14) (v:=undef) rfl (by kernel_rfl) (by kernel_rfl) (by kernel_rfl) (fun _ _ _ h=>h) (Or.inr ⟨by rfl,rfl⟩) (by assumption) ?_
  try simp only[Act.put,qA,qB,qC,qD,qE,qF]
  refine wpAnyH_take (i:=15) (v:=undef) rfl (by kernel_rfl) (by kernel_rfl) (by kernel_rfl) (fun _ _ _ h=>h) (Or.inr ⟨by rfl,rfl⟩) (by assumption) ?_
  try simp only[Act.put,qA,qB,qC,qD,qE,qF]
  refine wpAnyH_take (i:=16) (v:=undef) rfl (by kernel_rfl) (by kernel_rfl) (by kernel_rfl) (fun _ _ _ h=>h) (Or.inr ⟨by rfl,rfl⟩) (by assumption) ?_
  try simp only[Act.put,qA,qB,qC,qD,qE,qF]
  refine wpAnyH_take (i:=17) (v:=undef) rfl (by kernel_rfl) (by kernel_rfl) (by kernel_rfl) (fun _ _ _ h=>h) (Or.inr ⟨by rfl,rfl⟩) (by assumption) ?_
  try simp only[Act.put,qA,qB,qC,qD,qE,qF]
  refine wpAnyH_take (i:=18) (v:=?_) rfl (by kernel_rfl) (by kernel_rfl) (by kernel_rfl) (fun _ _ _ h=>h) (Or.inl ⟨by rfl,?_⟩) (by assumption) ?_;rotate_left 1
  ·(intro w hSw;(try dsimp only at hSw);go_simp<;>(with_reducible rfl))
  try simp only[Act.put,qA,qB,qC,qD,qE,qF]
  refine wpAnyH_take (i:=19) (v:=?_) rfl (by kernel_rfl) (by kernel_rfl) (by kernel_rfl) (fun _ _ _ h=>h) (Or.inl ⟨by rfl,?_⟩) (by assumption) ?_;rotate_left 1
  ·(intro w hSw;(try dsimp only at hSw);go_simp<;>(with_reducible rfl))
  try simp only[Act.put,qA,qB,qC,qD,qE,qF]
  refine wpAnyH_done (by kernel_rfl) ?_ _;refine NoPanic.normal ?_;have b7:=hH0;clear hH0;clear hB;go_wp2_with fail;refine(CMP.out _ b7).mono ?_;rintro e w8 ⟨rfl,b⟩;have b8:=Below.more b7 b;clear b;go_wp2_with fail;refine(CKP.out _ b8).mono ?_;rintro e w9 ⟨rfl,b⟩;have b9:=Below.more b8 b;clear b;go_wp2_with fail;go_ret;exact⟨ret_bool (by first|rfl|simp|decide),Below.more BW b9⟩
 ·obtain⟨x,y,rfl⟩:∃x y,ps=[x,y]:=len_two (by rw[HM2.out];rfl);have hkp:keepsP ⟨[x,y],(qn,qd)⟩ ast=true:=by rw[HKP.out];simp[*]
  have CMP:Hid (∀V,Below U6.heap.size U6 V→Calls Tryz.prog 17 #[.agg #[.slice pq 2 cq,.string ⟨qn.toArray⟩,.string ⟨qd.toArray⟩]] V (GiveB V true)):=zh (fun V hV=>by
   have k:=HB.out.may pq cq ⟨[x,y],(qn,qd)⟩ V hcq (by simp) (HSP.out.mono (by decide)) (Lq.out.below hV) (HB.out.below HG.out hV);rw[HMY.out]at k;exact k)
  have CKP:Hid (∀V,Below U6.heap.size U6 V→Calls Tryz.prog 19 #[.agg #[.slice pq 2 cq,.string ⟨qn.toArray⟩,.string ⟨qd.toArray⟩],.string ⟨ast.toArray⟩] V (GiveB V true)):=zh (fun V hV=>by
   have k:=HB.out.keeps pq cq ⟨[x,y],(qn,qd)⟩ ast V hcq (by simp) (Lq.out.below hV) (HB.out.below HG.out hV);rw[hkp]at k;exact k)
  clear hkp HM2 HMY HKP HSP
  (try simp only[List.length_cons,List.length_nil,Nat.zero_add,Nat.reduceAdd]at rp0 rp1 rp2)
  (try go_wp2_with fail)
  have hB:=zh (Nat.le_refl U6.heap.size);refine wp_region_noPanic ?_;refine wp_region_held_drew (S:=fun w'=>Below U6.heap.size U6 w') (by kernel_rfl) (b6.drew) (fun hH0=>?_);refine wpAnyH_take (i:=0) (v:=?_) rfl (by kernel_rfl) (by kernel_rfl) (by kernel_rfl) (fun _ _ _ h=>h) (Or.inl ⟨by rfl,?_⟩) (by assumption) ?_;rotate_left 1
  ·(intro w hSw;(try dsimp only at hSw);go_simp<;>(with_reducible rfl))
  try simp only[Act.put,qA,qB,qC,qD,qE,qF]
  refine wpAnyH_take (i:=1) (v:=?_) rfl (by kernel_rfl) (by kernel_rfl) (by kernel_rfl) (fun _ _ _ h=>h) (Or.inl ⟨by rfl,?_⟩) (by assumption) ?_;rotate_left 1
  ·(intro w hSw;(try dsimp only at hSw);go_simp<;>(with_reducible rfl))
  try simp only[Act.put,qA,qB,qC,qD,qE,qF]
  refine wpAnyH_take (i:=2) (v:=?_) rfl (by kernel_rfl) (by kernel_rfl) (by kernel_rfl) (fun _ _ _ h=>h) (Or.inl ⟨by rfl,?_⟩) (by assumption) ?_;rotate_left 1
  ·(intro w hSw;(try dsimp only at hSw);go_simp<;>(with_reducible rfl))
  try simp only[Act.put,qA,qB,qC,qD,qE,qF]
  refine wpAnyH_take (i:=3) (v:=?_) rfl (by kernel_rfl) (by kernel_rfl) (by kernel_rfl) (fun _ _ _ h=>h) (Or.inl ⟨by rfl,?_⟩) (by assumption) ?_;rotate_left 1
  ·(intro w hSw;(try dsimp only at hSw);go_simp<;>(with_reducible rfl))
  try simp only[Act.put,qA,qB,qC,qD,qE,qF]
  refine wpAnyH_take (i:=4) (v:=?_) rfl (by kernel_rfl) (by kernel_rfl) (by kernel_rfl) (fun _ _ _ h=>h) (Or.inl ⟨by rfl,?_⟩) (by assumption) ?_;rotate_left 1
  ·(intro w hSw;(try dsimp only at hSw);go_simp<;>(with_reducible rfl))
  try simp only[Act.put,qA,qB,qC,qD,qE,qF]
  refine wpAnyH_take (i:=5) (v:=?_) rfl (by kernel_rfl) (by kernel_rfl) (by kernel_rfl) (fun _ _ _ h=>h) (Or.inl ⟨by rfl,?_⟩) (by assumption) ?_;rotate_left 1
  ·(intro w hSw;(try dsimp only at hSw);go_simp<;>(with_reducible rfl))
  try simp only[Act.put,qA,qB,qC,qD,qE,qF]
  refine wpAnyH_take (i:=6) (v:=?_) rfl (by kernel_rfl) (by kernel_rfl) (by kernel_rfl) (fun _ _ _ h=>h) (Or.inl ⟨by rfl,?_⟩) (by assumption) ?_;rotate_left 1
  ·(intro w hSw;(try dsimp only at hSw);go_simp<;>(with_reducible rfl))
  try simp only[Act.put,qA,qB,qC,qD,qE,qF]
  refine wpAnyH_take (i:=7) (v:=?_) rfl (by kernel_rfl) (by kernel_rfl) (by kernel_rfl) (fun _ _ _ h=>h) (Or.inl ⟨by rfl,?_⟩) (by assumption) ?_;rotate_left 1
  ·(intro w hSw;(try dsimp only at hSw);go_simp<;>(with_reducible rfl))
  try simp only[Act.put,qA,qB,qC,qD,qE,qF]
  refine wpAnyH_take (i:=8) (v:=?_) rfl (by kernel_rfl) (by kernel_rfl) (by kernel_rfl) (fun _ _ _ h=>h) (Or.inl ⟨by rfl,?_⟩) (by assumption) ?_;rotate_left 1
  ·(intro w hSw;(try dsimp only at hSw);go_simp<;>(with_reducible rfl))
  try simp only[Act.put,qA,qB,qC,qD,qE,qF]
  refine wpAnyH_take (i:=9) (v:=undef) rfl (by kernel_rfl) (by kernel_rfl) (by kernel_rfl) (fun _ _ _ h=>h) (Or.inr ⟨by rfl,rfl⟩) (by assumption) ?_
  try simp only[Act.put,qA,qB,qC,qD,qE,qF]
  refine wpAnyH_take (i:=10) (v:=undef) rfl (by kernel_rfl) (by kernel_rfl) (by kernel_rfl) (fun _ _ _ h=>h) (Or.inr ⟨by rfl,rfl⟩) (by assumption) ?_
  try simp only[Act.put,qA,qB,qC,qD,qE,qF]
  refine wpAnyH_take (i:=11) (v:=undef) rfl (by kernel_rfl) (by kernel_rfl) (by kernel_rfl) (fun _ _ _ h=>h) (Or.inr ⟨by rfl,rfl⟩) (by assumption) ?_
  try simp only[Act.put,qA,qB,qC,qD,qE,qF]
  refine wpAnyH_take (i:=12) (v:=undef) rfl (by kernel_rfl) (by kernel_rfl) (by kernel_rfl) (fun _ _ _ h=>h) (Or.inr ⟨by rfl,rfl⟩) (by assumption) ?_
  try simp only[Act.put,qA,qB,qC,qD,qE,qF]
  refine wpAnyH_take (i:=13) (v:=undef) rfl (by kernel_rfl) (by kernel_rfl) (by kernel_rfl) (fun _ _ _ h=>h) (Or.inr ⟨by rfl,rfl⟩) (by assumption) ?_
  try simp only[Act.put,qA,qB,qC,qD,qE,qF]
  refine wpAnyH_take (i:=14) (v:=undef) rfl (by kernel_rfl) (by kernel_rfl) (by kernel_rfl) (fun _ _ _ h=>h) (Or.inr ⟨by rfl,rfl⟩) (by assumption) ?_
  try simp only[Act.put,qA,qB,qC,qD,qE,qF]
  refine wpAnyH_take (i:=15) (v:=undef) rfl (by kernel_rfl) (by kernel_rfl) (by kernel_rfl) (fun _ _ _ h=>h) (Or.inr ⟨by rfl,rfl⟩) (by assumption) ?_
  try simp only[Act.put,qA,qB,qC,qD,qE,qF]
  refine wpAnyH_take (i:=16) (v:=undef) rfl (by kernel_rfl) (by kernel_rfl) (by kernel_rfl) (fun _ _ _ h=>h) (Or.inr ⟨by rfl,rfl⟩) (by assumption) ?_
  try simp only[Act.put,qA,qB,qC,qD,qE,qF]
  refine wpAnyH_take (i:=17) (v:=undef) rfl (by kernel_rfl) (by kernel_rfl) (by kernel_rfl) (fun _ _ _ h=>h) (Or.inr ⟨by rfl,rfl⟩) (by assumption) ?_
  try simp only[Act.put,qA,qB,qC,qD,qE,qF]
  refine wpAnyH_take (i:=18) (v:=?_) rfl (by kernel_rfl) (by kernel_rfl) (by kernel_rfl) (fun _ _ _ h=>h) (Or.inl ⟨by rfl,?_⟩) (by assumption) ?_;rotate_left 1
  ·(intro w hSw;(try dsimp only at hSw);go_simp<;>(with_reducible rfl))
  try simp only[Act.put,qA,qB,qC,qD,qE,qF]
  refine wpAnyH_take (i:=19) (v:=?_) rfl (by kernel_rfl) (by kernel_rfl) (by kernel_rfl) (fun _ _ _ h=>h) (Or.inl ⟨by rfl,?_⟩) (by assumption) ?_;rotate_left 1
  ·(intro w hSw;(try dsimp only at hSw);go_simp<;>(with_reducible rfl))
  try simp only[Act.put,qA,qB,qC,qD,qE,qF]
  refine wpAnyH_done (by kernel_rfl) ?_ _;refine NoPanic.normal ?_;have b7:=hH0;clear hH0;clear hB;go_wp2_with fail;refine(CMP.out _ b7).mono ?_;rintro e w8 ⟨rfl,b⟩;have b8:=Below.more b7 b;clear b;go_wp2_with fail;refine(CKP.out _ b8).mono ?_;rintro e w9 ⟨rfl,b⟩;have b9:=Below.more b8 b;clear b;go_wp2_with fail;go_ret;exact⟨ret_bool (by first|rfl|simp|decide),Below.more BW b9⟩
 ·obtain⟨x,rfl⟩:∃x,ps=[x]:=List.length_eq_one_iff.1 (by rw[HM2.out];rfl);have hkp:keepsP ⟨[x],(qn,qd)⟩ ast=false:=by rw[HKP.out];simp[*]
  have CMP:Hid (∀V,Below U6.heap.size U6 V→Calls Tryz.prog 17 #[.agg #[.slice pq 1 cq,.string ⟨qn.toArray⟩,.string ⟨qd.toArray⟩]] V (GiveB V true)):=zh (fun V hV=>by
   have k:=HB.out.may pq cq ⟨[x],(qn,qd)⟩ V hcq (by simp) (HSP.out.mono (by decide)) (Lq.out.below hV) (HB.out.below HG.out hV);rw[HMY.out]at k;exact k)
  have CKP:Hid (∀V,Below U6.heap.size U6 V→Calls Tryz.prog 19 #[.agg #[.slice pq 1 cq,.string ⟨qn.toArray⟩,.string ⟨qd.toArray⟩],.string ⟨ast.toArray⟩] V (GiveB V false)):=zh (fun V hV=>by
   have k:=HB.out.keeps pq cq ⟨[x],(qn,qd)⟩ ast V hcq (by simp) (Lq.out.below hV) (HB.out.below HG.out hV);rw[hkp]at k;exact k)
  clear hkp HM2 HMY HKP HSP
  (try simp only[List.length_cons,List.length_nil,Nat.zero_add,Nat.reduceAdd]at rp0 rp1 rp2)
  (try go_wp2_with fail)
  have hB:=zh (Nat.le_refl U6.heap.size);refine wp_region_noPanic ?_;refine wp_region_held_drew (S:=fun w'=>Below U6.heap.size U6 w') (by kernel_rfl) (b6.drew) (fun hH0=>?_);refine wpAnyH_take (i:=0) (v:=?_) rfl (by kernel_rfl) (by kernel_rfl) (by kernel_rfl) (fun _ _ _ h=>h) (Or.inl ⟨by rfl,?_⟩) (by assumption) ?_;rotate_left 1
  ·(intro w hSw;(try dsimp only at hSw);go_simp<;>(with_reducible rfl))
  try simp only[Act.put,qA,qB,qC,qD,qE,qF]
  refine wpAnyH_take (i:=1) (v:=?_) rfl (by kernel_rfl) (by kernel_rfl) (by kernel_rfl) (fun _ _ _ h=>h) (Or.inl ⟨by rfl,?_⟩) (by assumption) ?_;rotate_left 1
  ·(intro w hSw;(try dsimp only at hSw);go_simp<;>(with_reducible rfl))
  try simp only[Act.put,qA,qB,qC,qD,qE,qF]
  refine wpAnyH_take (i:=2) (v:=?_) rfl (by kernel_rfl) (by kernel_rfl) (by kernel_rfl) (fun _ _ _ h=>h) (Or.inl ⟨by rfl,?_⟩) (by assumption) ?_;rotate_left 1
  ·(intro w hSw;(try dsimp only at hSw);go_simp<;>(with_reducible rfl))
  try simp only[Act.put,qA,qB,qC,qD,qE,qF]
  refine wpAnyH_take (i:=3) (v:=?_) rfl (by kernel_rfl) (by kernel_rfl) (by kernel_rfl) (fun _ _ _ h=>h) (Or.inl ⟨by rfl,?_⟩) (by assumption) ?_;rotate_left 1
  ·(intro w hSw;(try dsimp only at hSw);go_simp<;>(with_reducible rfl))
  try simp only[Act.put,qA,qB,qC,qD,qE,qF]
  refine wpAnyH_take (i:=4) (v:=?_) rfl (by kernel_rfl) (by kernel_rfl) (by kernel_rfl) (fun _ _ _ h=>h) (Or.inl ⟨by rfl,?_⟩) (by assumption) ?_;rotate_left 1
  ·(intro w hSw;(try dsimp only at hSw);go_simp<;>(with_reducible rfl))
  try simp only[Act.put,qA,qB,qC,qD,qE,qF]
  refine wpAnyH_take (i:=5) (v:=?_) rfl (by kernel_rfl) (by kernel_rfl) (by kernel_rfl) (fun _ _ _ h=>h) (Or.inl ⟨by rfl,?_⟩) (by assumption) ?_;rotate_left 1
  ·(intro w hSw;(try dsimp only at hSw);go_simp<;>(with_reducible rfl))
  try simp only[Act.put,qA,qB,qC,qD,qE,qF]
  refine wpAnyH_take (i:=6) (v:=?_) rfl (by kernel_rfl) (by kernel_rfl) (by kernel_rfl) (fun _ _ _ h=>h) (Or.inl ⟨by rfl,?_⟩) (by assumption) ?_;rotate_left 1
  ·(intro w hSw;(try dsimp only at hSw);go_simp<;>(with_reducible rfl))
  try simp only[Act.put,qA,qB,qC,qD,qE,qF]
  refine wpAnyH_take (i:=7) (v:=?_) rfl (by kernel_rfl) (by kernel_rfl) (by kernel_rfl) (fun _ _ _ h=>h) (Or.inl ⟨by rfl,?_⟩) (by assumption) ?_;rotate_left 1
  ·(intro w hSw;(try dsimp only at hSw);go_simp<;>(with_reducible rfl))
  try simp only[Act.put,qA,qB,qC,qD,qE,qF]
  refine wpAnyH_take (i:=8) (v:=?_) rfl (by kernel_rfl) (by kernel_rfl) (by kernel_rfl) (fun _ _ _ h=>h) (Or.inl ⟨by rfl,?_⟩) (by assumption) ?_;rotate_left 1
  ·(intro w hSw;(try dsimp only at hSw);go_simp<;>(with_reducible rfl))
  try simp only[Act.put,qA,qB,qC,qD,qE,qF]
  refine wpAnyH_take (i:=9) (v:=?_) rfl (by kernel_rfl) (by kernel_rfl) (by kernel_rfl) (fun _ _ _ h=>h) (Or.inl ⟨by rfl,?_⟩) (by assumption) ?_;rotate_left 1
  ·(intro w hSw;(try dsimp only at hSw);go_simp<;>(with_reducible rfl))
  try simp only[Act.put,qA,qB,qC,qD,qE,qF]
  refine wpAnyH_take (i:=10) (v:=?_) rfl (by kernel_rfl) (by kernel_rfl) (by kernel_rfl) (fun _ _ _ h=>h) (Or.inl ⟨by rfl,?_⟩) (by assumption) ?_;rotate_left 1
  ·(intro w hSw;(try dsimp only at hSw);go_simp<;>(with_reducible rfl))
  try simp only[Act.put,qA,qB,qC,qD,qE,qF]
  refine wpAnyH_take (i:=11) (v:=?_) rfl (by kernel_rfl) (by kernel_rfl) (by kernel_rfl) (fun _ _ _ h=>h) (Or.inl ⟨by rfl,?_⟩) (by assumption) ?_;rotate_left 1
  ·(intro w hSw;(try dsimp only at hSw);go_simp<;>(with_reducible rfl))
  try simp only[Act.put,qA,qB,qC,qD,qE,qF]
  refine wpAnyH_take (i:=12) (v:=?_) rfl (by kernel_rfl) (by kernel_rfl) (by kernel_rfl) (fun _ _ _ h=>h) (Or.inl ⟨by rfl,?_⟩) (by assumption) ?_;rotate_left 1
  ·(intro w hSw;(try dsimp only at hSw);go_simp<;>(with_reducible rfl))
  try simp only[Act.put,qA,qB,qC,qD,qE,qF]
  refine wpAnyH_take (i:=13) (v:=undef) rfl (by kernel_rfl) (by kernel_rfl) (by kernel_rfl) (fun _ _ _ h=>h) (Or.inr ⟨by rfl,rfl⟩) (by assumption) ?_
  try simp only[Act.put,qA,qB,qC,qD,qE,qF]
  refine wpAnyH_take (i:=14) (v:=undef) rfl (by kernel_rfl) (by kernel_rfl) (by kernel_rfl) (fun _ _ _ h=>h) (Or.inr ⟨by rfl,rfl⟩) (by assumption) ?_
  try simp only[Act.put,qA,qB,qC,qD,qE,qF]
  refine wpAnyH_take (i:=15) (v:=undef) rfl (by kernel_rfl) (by kernel_rfl) (by kernel_rfl) (fun _ _ _ h=>h) (Or.inr ⟨by rfl,rfl⟩) (by assumption) ?_
  try simp only[Act.put,qA,qB,qC,qD,qE,qF]
  refine wpAnyH_take (i:=16) (v:=undef) rfl (by kernel_rfl) (by kernel_rfl) (by kernel_rfl) (fun _ _ _ h=>h) (Or.inr ⟨by rfl,rfl⟩) (by assumption) ?_
  try simp only[Act.put,qA,qB,qC,qD,qE,qF]
  refine wpAnyH_take (i:=17) (v:=?_) rfl (by kernel_rfl) (by kernel_rfl) (by kernel_rfl) (fun _ _ _ h=>h) (Or.inl ⟨by rfl,?_⟩) (by assumption) ?_;rotate_left 1
  ·(intro w hSw;(try dsimp only at hSw);go_simp<;>(with_reducible rfl))
  try simp only[Act.put,qA,qB,qC,qD,qE,qF]
  refine wpAnyH_take (i:=18) (v:=?_) rfl (by kernel_rfl) (by kernel_rfl) (by kernel_rfl) (fun _ _ _ h=>h) (Or.inl ⟨by rfl,?_⟩) (by assumption) ?_;rotate_left 1
  ·(intro w hSw;(try dsimp only at hSw);go_simp<;>(with_reducible rfl))
  try simp only[Act.put,qA,qB,qC,qD,qE,qF]
  refine wpAnyH_take (i:=19) (v:=?_) rfl (by kernel_rfl) (by kernel_rfl) (by kernel_rfl) (fun _ _ _ h=>h) (Or.inl ⟨by rfl,?_⟩) (by assumption) ?_;rotate_left 1
  ·(intro w hSw;(try dsimp only at hSw);go_simp<;>(with_reducible rfl))
  try simp only[Act.put,qA,qB,qC,qD,qE,qF]
  refine wpAnyH_done (by kernel_rfl) ?_ _;refine NoPanic.normal ?_;have b7:=hH0;clear hH0;clear hB;go_wp2_with fail;refine(CMP.out _ b7).mono ?_;rintro e w8 ⟨rfl,b⟩;have b8:=Below.more b7 b;clear b;go_wp2_with fail;refine(CKP.out _ b8).mono ?_;rintro e w9 ⟨rfl,b⟩;have b9:=Below.more b8 b;clear b;go_wp2_with fail;go_ret;exact⟨ret_bool (by first|rfl|simp|decide),Below.more BW b9⟩
theorem may16_any(H:PackC G)(a:Ac.Actn)(w:World)(hza:a.nm.length+a.ast.length+a.oth.length≤4611686018427387904)(hg:G w):Calls Tryz.prog 5 #[.agg #[.string ⟨a.nm.toArray⟩,.int .i64 a.kind,.string ⟨a.ast.toArray⟩,.string ⟨a.oth.toArray⟩,.string ⟨a.ratio.1.toArray⟩,.string ⟨a.ratio.2.toArray⟩,.string ⟨a.cash.1.toArray⟩,.string ⟨a.cash.2.toArray⟩,.int .i64 a.ex,.int .i64 a.rc,.int .i64 a.pay]] w (GiveB w true) :=
 may16_x a.nm a.ast a.oth a.ratio.1 a.ratio.2 a.cash.1 a.cash.2 a.kind a.ex a.rc a.pay H w hza hg
end Go.Proofs.YthgopcnagecbaaaGreatDoor
