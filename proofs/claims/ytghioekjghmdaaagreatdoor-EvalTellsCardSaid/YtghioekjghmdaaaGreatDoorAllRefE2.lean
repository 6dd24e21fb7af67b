/- Own work. -/
import Derived.Test.YtghioekjghmdaaaGreatDoorAllRefEM
set_option linter.unusedSimpArgs false
set_option linter.unusedVariables false
set_option maxHeartbeats 4000000
set_option maxRecDepth 100000
namespace Go.Proofs.YtghioekjghmdaaaGreatDoor
open Go.RowKit
open Tm (Nd Tr treeOf checkT plainN avN)
variable {G : World → Prop}
open Ev (hiQ loQ upQ)
theorem eab5{x:Rat}(hx:ShQ x)(p:Option Addr)(c:Nat)(w:World)(h:Qs w p [x]):Calls Tryz.prog 37 #[.int .i64 5,.slice p 1 c] w (GiveRB w (match upQ 5 [x] with|some q=>(rd q,true)|none=>((([],[]):Key),false))):=by
 obtain⟨b,o,rfl,k00,k01⟩:=q_rule h (k:=0) rfl;simp only[Nat.zero_mul,Nat.add_zero,Nat.one_mul]at k00 k01;have b0:=Below.refl w.heap.size w;have ba:=fun x=>Below.alloc b0 (Below.size b0) x;clear h;have hu:upQ 5 [x]=some (-x):=rfl;rw[hu];go_enter Tryz.func37,Tryz.ntmps37;go_wp2_with fail;obtain⟨W,hW,BW,hz⟩:∃W,w.alloc (.cells #[.string ⟨#[]⟩,.string ⟨#[]⟩] 28)=W∧Below w.heap.size w W∧Zc w.heap.size (.string ⟨#[]⟩) (.string ⟨#[]⟩) W:=⟨_,rfl,Below.alloc (Below.refl _ _) (Nat.le_refl _) _,zc_new _ _ _ _⟩;rw[hW];clear hW ba;refine(eneg hx _).mono ?_;rintro r w1 ⟨rfl,b⟩;have hz1:=hz.below b;have z0:=hz1.c0;have z1:=hz1.c1;have z2:=hz1.f0;have z3:=hz1.f1
 have BB:=zh (Below.more BW b);have b0':=BB.out;clear b hz hz1;go_wp2_with fail;refine bodyPost_ret (v:=.tuple #[.agg #[.string ⟨(rd (-x)).1.toArray⟩,.string ⟨(rd (-x)).2.toArray⟩],.bool true]) (by simp[results,Tryz.results37,go_sem, *]) rfl ⟨rfl,put2 BB.out (Nat.le_refl _) _ _⟩
theorem eab6{x y:Rat}(hx:ShQ x)(hy:ShQ y)(p:Option Addr)(c:Nat)(w:World)(h:Qs w p [x,y]):Calls Tryz.prog 37 #[.int .i64 6,.slice p 2 c] w (GiveRB w (match upQ 6 [x,y] with|some q=>(rd q,true)|none=>((([],[]):Key),false))):=by
 obtain⟨b,o,rfl,k00,k01⟩:=q_rule h (k:=0) rfl;obtain⟨b,o,hp1,k10,k11⟩:=q_rule h (k:=1) rfl
 cases hp1
 simp only[Nat.zero_mul,Nat.add_zero,Nat.one_mul]at k00 k01 k10 k11;have b0:=Below.refl w.heap.size w;have ba:=fun x=>Below.alloc b0 (Below.size b0) x;clear h;have hu:upQ 6 [x,y]=some (x+y):=rfl;rw[hu];have CC:=zh (fun V=>eadd hx hy V);generalize (x+y)=u at *;clear hu hx hy;go_enter Tryz.func37,Tryz.ntmps37;go_wp2_with fail;obtain⟨W,hW,BW,hz⟩:∃W,w.alloc (.cells #[.string ⟨#[]⟩,.string ⟨#[]⟩] 28)=W∧Below w.heap.size w W∧Zc w.heap.size (.string ⟨#[]⟩) (.string ⟨#[]⟩) W:=⟨_,rfl,Below.alloc (Below.refl _ _) (Nat.le_refl _) _,zc_new _ _ _ _⟩;rw[hW];clear hW ba;have hzd:=hz.drew;have hB:=zh (Nat.le_refl w.heap.size)
 first|(go_region_held3 (fun w'=>Below w.heap.size w w')
  (first|(exact BW.drew)|(with_reducible assumption)|(exact Below.alloc (by with_reducible assumption) (Nat.le_trans hB.out (Below.size (by with_reducible assumption))) _)|(exact put2 (by with_reducible assumption) (Nat.le_refl _) _ _)|(exact put2 (by with_reducible assumption) hB.out _ _)|(exact put2 (by with_reducible assumption) (Nat.le_trans hB.out (Below.size (by with_reducible assumption))) _ _))
  (first|(go_at_call 23;(with_reducible refine(held (W:=w) hB.out (CC.out _) (by assumption)).mono ?_);rintro e w'' ⟨rfl,hb,hw⟩;(first|(have hz:=zc_made0 hb)|(have hz:=zc_made hb)|skip);(try have hz:=Zc.below (by assumption) hb);(try (have z0:=hz.c0;have z1:=hz.c1;have z2:=hz.f0;have z3:=hz.f1)))))|fail
 all_goals (go_wp2_with fail)
 all_goals (refine bodyPost_ret (v:=.tuple #[.agg #[.string ⟨(rd u).1.toArray⟩,.string ⟨(rd u).2.toArray⟩],.bool true]) (by simp[results,Tryz.results37,go_sem, *]) rfl ⟨rfl,?_⟩)
 all_goals (first|exact put2 (by with_reducible assumption) (Nat.le_refl _) _ _|with_reducible assumption)
theorem eab7{x y:Rat}(hx:ShQ x)(hy:ShQ y)(p:Option Addr)(c:Nat)(w:World)(h:Qs w p [x,y]):Calls Tryz.prog 37 #[.int .i64 7,.slice p 2 c] w (GiveRB w (match upQ 7 [x,y] with|some q=>(rd q,true)|none=>((([],[]):Key),false))):=by
 obtain⟨b,o,rfl,k00,k01⟩:=q_rule h (k:=0) rfl;obtain⟨b,o,hp1,k10,k11⟩:=q_rule h (k:=1) rfl
 cases hp1
 simp only[Nat.zero_mul,Nat.add_zero,Nat.one_mul]at k00 k01 k10 k11;have b0:=Below.refl w.heap.size w;have ba:=fun x=>Below.alloc b0 (Below.size b0) x;clear h;have hu:upQ 7 [x,y]=some (x-y):=rfl;rw[hu];have CC:=zh (fun V=>esub hx hy V);generalize (x-y)=u at *;clear hu hx hy;go_enter Tryz.func37,Tryz.ntmps37;go_wp2_with fail;obtain⟨W,hW,BW,hz⟩:∃W,w.alloc (.cells #[.string ⟨#[]⟩,.string ⟨#[]⟩] 28)=W∧Below w.heap.size w W∧Zc w.heap.size (.string ⟨#[]⟩) (.string ⟨#[]⟩) W:=⟨_,rfl,Below.alloc (Below.refl _ _) (Nat.le_refl _) _,zc_new _ _ _ _⟩;rw[hW];clear hW ba;have hzd:=hz.drew;have hB:=zh (Nat.le_refl w.heap.size)
 first|(go_region_held3 (fun w'=>Below w.heap.size w w')
  (first|(exact BW.drew)|(with_reducible assumption)|(exact Below.alloc (by with_reducible assumption) (Nat.le_trans hB.out (Below.size (by with_reducible assumption))) _)|(exact put2 (by with_reducible assumption) (Nat.le_refl _) _ _)|(exact put2 (by with_reducible assumption) hB.out _ _)|(exact put2 (by with_reducible assumption) (Nat.le_trans hB.out (Below.size (by with_reducible assumption))) _ _))
  (first|(go_at_call 24;(with_reducible refine(held (W:=w) hB.out (CC.out _) (by assumption)).mono ?_);rintro e w'' ⟨rfl,hb,hw⟩;(first|(have hz:=zc_made0 hb)|(have hz:=zc_made hb)|skip);(try have hz:=Zc.below (by assumption) hb);(try (have z0:=hz.c0;have z1:=hz.c1;have z2:=hz.f0;have z3:=hz.f1)))))|fail
 all_goals (go_wp2_with fail)
 all_goals (refine bodyPost_ret (v:=.tuple #[.agg #[.string ⟨(rd u).1.toArray⟩,.string ⟨(rd u).2.toArray⟩],.bool true]) (by simp[results,Tryz.results37,go_sem, *]) rfl ⟨rfl,?_⟩)
 all_goals (first|exact put2 (by with_reducible assumption) (Nat.le_refl _) _ _|with_reducible assumption)
theorem eab8{x y:Rat}(hx:ShQ x)(hy:ShQ y)(p:Option Addr)(c:Nat)(w:World)(h:Qs w p [x,y]):Calls Tryz.prog 37 #[.int .i64 8,.slice p 2 c] w (GiveRB w (match upQ 8 [x,y] with|some q=>(rd q,true)|none=>((([],[]):Key),false))):=by
 obtain⟨b,o,rfl,k00,k01⟩:=q_rule h (k:=0) rfl;obtain⟨b,o,hp1,k10,k11⟩:=q_rule h (k:=1) rfl
 cases hp1
 simp only[Nat.zero_mul,Nat.add_zero,Nat.one_mul]at k00 k01 k10 k11;have b0:=Below.refl w.heap.size w;have ba:=fun x=>Below.alloc b0 (Below.size b0) x;clear h;have hu:upQ 8 [x,y]=some (x*y):=rfl;rw[hu];have CC:=zh (fun V=>emul hx hy V);generalize (x*y)=u at *;clear hu hx hy;go_enter Tryz.func37,Tryz.ntmps37;go_wp2_with fail;obtain⟨W,hW,BW,hz⟩:∃W,w.alloc (.cells #[.string ⟨#[]⟩,.string ⟨#[]⟩] 28)=W∧Below w.heap.size w W∧Zc w.heap.size (.string ⟨#[]⟩) (.string ⟨#[]⟩) W:=⟨_,rfl,Below.alloc (Below.refl _ _) (Nat.le_refl _) _,zc_new _ _ _ _⟩;rw[hW];clear hW ba;have hzd:=hz.drew;have hB:=zh (Nat.le_refl w.heap.size)
 first|(go_region_held3 (fun w'=>Below w.heap.size w w')
  (first|(exact BW.drew)|(with_reducible assumption)|(exact Below.alloc (by with_reducible assumption) (Nat.le_trans hB.out (Below.size (by with_reducible assumption))) _)|(exact put2 (by with_reducible assumption) (Nat.le_refl _) _ _)|(exact put2 (by with_reducible assumption) hB.out _ _)|(exact put2 (by with_reducible assumption) (Nat.le_trans hB.out (Below.size (by with_reducible assumption))) _ _))
  (first|(go_at_call 25;(with_reducible refine(held (W:=w) hB.out (CC.out _) (by assumption)).mono ?_);rintro e w'' ⟨rfl,hb,hw⟩;(first|(have hz:=zc_made0 hb)|(have hz:=zc_made hb)|skip);(try have hz:=Zc.below (by assumption) hb);(try (have z0:=hz.c0;have z1:=hz.c1;have z2:=hz.f0;have z3:=hz.f1)))))|fail
 all_goals (go_wp2_with fail)
 all_goals (refine bodyPost_ret (v:=.tuple #[.agg #[.string ⟨(rd u).1.toArray⟩,.string ⟨(rd u).2.toArray⟩],.bool true]) (by simp[results,Tryz.results37,go_sem, *]) rfl ⟨rfl,?_⟩)
 all_goals (first|exact put2 (by with_reducible assumption) (Nat.le_refl _) _ _|with_reducible assumption)
theorem eab10{x y:Rat}(hx:ShQ x)(hy:ShQ y)(p:Option Addr)(c:Nat)(w:World)(h:Qs w p [x,y]):Calls Tryz.prog 37 #[.int .i64 10,.slice p 2 c] w (GiveRB w (match upQ 10 [x,y] with|some q=>(rd q,true)|none=>((([],[]):Key),false))):=by
 obtain⟨b,o,rfl,k00,k01⟩:=q_rule h (k:=0) rfl;obtain⟨b,o,hp1,k10,k11⟩:=q_rule h (k:=1) rfl
 cases hp1
 simp only[Nat.zero_mul,Nat.add_zero,Nat.one_mul]at k00 k01 k10 k11;have b0:=Below.refl w.heap.size w;have ba:=fun x=>Below.alloc b0 (Below.size b0) x;clear h;have hu:upQ 10 [x,y]=some (hiQ x y):=rfl;rw[hu];have CC:=zh (fun V=>egreater_any hx hy V);generalize (hiQ x y)=u at *;clear hu hx hy;go_enter Tryz.func37,Tryz.ntmps37;go_wp2_with fail;obtain⟨W,hW,BW,hz⟩:∃W,w.alloc (.cells #[.string ⟨#[]⟩,.string ⟨#[]⟩] 28)=W∧Below w.heap.size w W∧Zc w.heap.size (.string ⟨#[]⟩) (.string ⟨#[]⟩) W:=⟨_,rfl,Below.alloc (Below.refl _ _) (Nat.le_refl _) _,zc_new _ _ _ _⟩;rw[hW];clear hW ba;have hzd:=hz.drew;have hB:=zh (Nat.le_refl w.heap.size)
 first|(go_region_held3 (fun w'=>Below w.heap.size w w')
  (first|(exact BW.drew)|(with_reducible assumption)|(exact Below.alloc (by with_reducible assumption) (Nat.le_trans hB.out (Below.size (by with_reducible assumption))) _)|(exact put2 (by with_reducible assumption) (Nat.le_refl _) _ _)|(exact put2 (by with_reducible assumption) hB.out _ _)|(exact put2 (by with_reducible assumption) (Nat.le_trans hB.out (Below.size (by with_reducible assumption))) _ _))
  (first|(go_at_call 68;(with_reducible refine(held (W:=w) hB.out (CC.out _) (by assumption)).mono ?_);rintro e w'' ⟨rfl,hb,hw⟩;(first|(have hz:=zc_made0 hb)|(have hz:=zc_made hb)|skip);(try have hz:=Zc.below (by assumption) hb);(try (have z0:=hz.c0;have z1:=hz.c1;have z2:=hz.f0;have z3:=hz.f1)))))|fail
 all_goals (go_wp2_with fail)
 all_goals (refine bodyPost_ret (v:=.tuple #[.agg #[.string ⟨(rd u).1.toArray⟩,.string ⟨(rd u).2.toArray⟩],.bool true]) (by simp[results,Tryz.results37,go_sem, *]) rfl ⟨rfl,?_⟩)
 all_goals (first|exact put2 (by with_reducible assumption) (Nat.le_refl _) _ _|with_reducible assumption)
theorem eab11{x y:Rat}(hx:ShQ x)(hy:ShQ y)(p:Option Addr)(c:Nat)(w:World)(h:Qs w p [x,y]):Calls Tryz.prog 37 #[.int .i64 11,.slice p 2 c] w (GiveRB w (match upQ 11 [x,y] with|some q=>(rd q,true)|none=>((([],[]):Key),false))):=by
 obtain⟨b,o,rfl,k00,k01⟩:=q_rule h (k:=0) rfl;obtain⟨b,o,hp1,k10,k11⟩:=q_rule h (k:=1) rfl
 cases hp1
 simp only[Nat.zero_mul,Nat.add_zero,Nat.one_mul]at k00 k01 k10 k11;have b0:=Below.refl w.heap.size w;have ba:=fun x=>Below.alloc b0 (Below.size b0) x;clear h;have hu:upQ 11 [x,y]=some (loQ x y):=rfl;rw[hu];have CC:=zh (fun V=>elesser_any hx hy V);generalize (loQ x y)=u at *;clear hu hx hy;go_enter Tryz.func37,Tryz.ntmps37;go_wp2_with fail;obtain⟨W,hW,BW,hz⟩:∃W,w.alloc (.cells #[.string ⟨#[]⟩,.string ⟨#[]⟩] 28)=W∧Below w.heap.size w W∧Zc w.heap.size (.string ⟨#[]⟩) (.string ⟨#[]⟩) W:=⟨_,rfl,Below.alloc (Below.refl _ _) (Nat.le_refl _) _,zc_new _ _ _ _⟩;rw[hW];clear hW ba;have hzd:=hz.drew;have hB:=zh (Nat.le_refl w.heap.size)
 first|(go_region_held3 (fun w'=>Below w.heap.size w w')
  (first|(exact BW.drew)|(with_reducible assumption)|(exact Below.alloc (by with_reducible assumption) (Nat.le_trans hB.out (Below.size (by with_reducible assumption))) _)|(exact put2 (by with_reducible assumption) (Nat.le_refl _) _ _)|(exact put2 (by with_reducible assumption) hB.out _ _)|(exact put2 (by with_reducible assumption) (Nat.le_trans hB.out (Below.size (by with_reducible assumption))) _ _))
  (first|(go_at_call 69;(with_reducible refine(held (W:=w) hB.out (CC.out _) (by assumption)).mono ?_);rintro e w'' ⟨rfl,hb,hw⟩;(first|(have hz:=zc_made0 hb)|(have hz:=zc_made hb)|skip);(try have hz:=Zc.below (by assumption) hb);(try (have z0:=hz.c0;have z1:=hz.c1;have z2:=hz.f0;have z3:=hz.f1)))))|fail
 all_goals (go_wp2_with fail)
 all_goals (refine bodyPost_ret (v:=.tuple #[.agg #[.string ⟨(rd u).1.toArray⟩,.string ⟨(rd u).2.toArray⟩],.bool true]) (by simp[results,Tryz.results37,go_sem, *]) rfl ⟨rfl,?_⟩)
 all_goals (first|exact put2 (by with_reducible assumption) (Nat.le_refl _) _ _|with_reducible assumption)
theorem eab9{x y:Rat}(hx:ShQ x)(hy:ShQ y)(p:Option Addr)(c:Nat)(w:World)(h:Qs w p [x,y]):Calls Tryz.prog 37 #[.int .i64 9,.slice p 2 c] w (GiveRB w (match upQ 9 [x,y] with|some q=>(rd q,true)|none=>((([],[]):Key),false))):=by
 obtain⟨b,o,rfl,k00,k01⟩:=q_rule h (k:=0) rfl;obtain⟨b,o,hp1,k10,k11⟩:=q_rule h (k:=1) rfl
 cases hp1
 simp only[Nat.zero_mul,Nat.add_zero,Nat.one_mul]at k00 k01 k10 k11;have b0:=Below.refl w.heap.size w;have ba:=fun x=>Below.alloc b0 (Below.size b0) x;clear h;by_cases h0:y=0
 ·subst h0;have CC:=zh (fun V=>ediv0 hx V);go_enter Tryz.func37,Tryz.ntmps37;go_wp2_with fail;obtain⟨W,hW,BW,hz⟩:∃W,w.alloc (.cells #[.string ⟨#[]⟩,.string ⟨#[]⟩] 28)=W∧Below w.heap.size w W∧Zc w.heap.size (.string ⟨#[]⟩) (.string ⟨#[]⟩) W:=⟨_,rfl,Below.alloc (Below.refl _ _) (Nat.le_refl _) _,zc_new _ _ _ _⟩;rw[hW];clear hW ba;have hzd:=hz.drew;have hB:=zh (Nat.le_refl w.heap.size)
  first|(go_region_held3 (fun w'=>Below w.heap.size w w')
   (first|(exact BW.drew)|(with_reducible assumption)|(exact Below.alloc (by with_reducible assumption) (Nat.le_trans hB.out (Below.size (by with_reducible assumption))) _)|(exact put2 (by with_reducible assumption) (Nat.le_refl _) _ _)|(exact put2 (by with_reducible assumption) hB.out _ _)|(exact put2 (by with_reducible assumption) (Nat.le_trans hB.out (Below.size (by with_reducible assumption))) _ _))
   (first|(go_at_call 20;(with_reducible refine(held (W:=w) hB.out (CC.out _) (by assumption)).mono ?_);rintro e w'' ⟨rfl,hb,hw⟩;(first|(have hz:=zc_made0 hb)|(have hz:=zc_made hb)|skip);(try have hz:=Zc.below (by assumption) hb);(try (have z0:=hz.c0;have z1:=hz.c1;have z2:=hz.f0;have z3:=hz.f1)))))|fail
  all_goals (go_wp2_with fail)
  all_goals (refine bodyPost_ret (v:=.tuple #[.agg #[.string ⟨#[]⟩,.string ⟨#[]⟩],.bool false]) (by simp[results,Tryz.results37,go_sem, *]) rfl ⟨rfl,?_⟩)
  all_goals (first|exact put2 (by with_reducible assumption) (Nat.le_refl _) _ _|with_reducible assumption)
 ·have hu:upQ 9 [x,y]=some (x / y):=if_neg h0;rw[hu];have CC:=zh (fun V=>ediv hx hy V h0);generalize x / y=u at *;clear hu hx hy h0;go_enter Tryz.func37,Tryz.ntmps37;go_wp2_with fail;obtain⟨W,hW,BW,hz⟩:∃W,w.alloc (.cells #[.string ⟨#[]⟩,.string ⟨#[]⟩] 28)=W∧Below w.heap.size w W∧Zc w.heap.size (.string ⟨#[]⟩) (.string ⟨#[]⟩) W:=⟨_,rfl,Below.alloc (Below.refl _ _) (Nat.le_refl _) _,zc_new _ _ _ _⟩;rw[hW];clear hW ba;have hzd:=hz.drew;have hB:=zh (Nat.le_refl w.heap.size)
  first|(go_region_held3 (fun w'=>Below w.heap.size w w')
   (first|(exact BW.drew)|(with_reducible assumption)|(exact Below.alloc (by with_reducible assumption) (Nat.le_trans hB.out (Below.size (by with_reducible assumption))) _)|(exact put2 (by with_reducible assumption) (Nat.le_refl _) _ _)|(exact put2 (by with_reducible assumption) hB.out _ _)|(exact put2 (by with_reducible assumption) (Nat.le_trans hB.out (Below.size (by with_reducible assumption))) _ _))
   (first|(go_at_call 20;(with_reducible refine(held (W:=w) hB.out (CC.out _) (by assumption)).mono ?_);rintro e w'' ⟨rfl,hb,hw⟩;(first|(have hz:=zc_made0 hb)|(have hz:=zc_made hb)|skip);(try have hz:=Zc.below (by assumption) hb);(try (have z0:=hz.c0;have z1:=hz.c1;have z2:=hz.f0;have z3:=hz.f1)))))|fail
  all_goals (go_wp2_with fail)
  all_goals (refine bodyPost_ret (v:=.tuple #[.agg #[.string ⟨(rd u).1.toArray⟩,.string ⟨(rd u).2.toArray⟩],.bool true]) (by simp[results,Tryz.results37,go_sem, *]) rfl ⟨rfl,?_⟩)
  all_goals (first|exact put2 (by with_reducible assumption) (Nat.le_refl _) _ _|with_reducible assumption)
theorem eab12{x y z:Rat}(hx:ShQ x)(p:Option Addr)(c:Nat)(w:World)(h:Qs w p [x,y,z]):Calls Tryz.prog 37 #[.int .i64 12,.slice p 3 c] w (GiveRB w (match upQ 12 [x,y,z] with|some q=>(rd q,true)|none=>((([],[]):Key),false))):=by
 obtain⟨b,o,rfl,k00,k01⟩:=q_rule h (k:=0) rfl;obtain⟨b,o,hp1,k10,k11⟩:=q_rule h (k:=1) rfl
 cases hp1
 obtain⟨b,o,hp2,k20,k21⟩:=q_rule h (k:=2) rfl
 cases hp2
 simp only[Nat.zero_mul,Nat.add_zero,Nat.one_mul]at k00 k01 k10 k11 k20 k21;have b0:=Below.refl w.heap.size w;have ba:=fun x=>Below.alloc b0 (Below.size b0) x;clear h;have hu:upQ 12 [x,y,z]=some (if 0<sgnQ x then y else z):=rfl;rw[hu];generalize hs:sgnQ x=s;by_cases h0:0<s
 ·rw[if_pos h0];go_enter Tryz.func37,Tryz.ntmps37;go_wp2_with fail;obtain⟨W,hW,BW,hz⟩:∃W,w.alloc (.cells #[.string ⟨#[]⟩,.string ⟨#[]⟩] 28)=W∧Below w.heap.size w W∧Zc w.heap.size (.string ⟨#[]⟩) (.string ⟨#[]⟩) W:=⟨_,rfl,Below.alloc (Below.refl _ _) (Nat.le_refl _) _,zc_new _ _ _ _⟩;rw[hW];clear hW ba;refine((hs▸esign hx _:Calls _ _ _ _ (GiveI _ s))).mono ?_;rintro r w1 ⟨rfl,b⟩;have hz1:=hz.below b;have z0:=hz1.c0;have z1:=hz1.c1;have z2:=hz1.f0;have z3:=hz1.f1
  have BB:=zh (Below.more BW b);have b0':=BB.out;clear b hz hz1;go_wp2_with fail;refine bodyPost_ret (v:=.tuple #[.agg #[.string ⟨(rd y).1.toArray⟩,.string ⟨(rd y).2.toArray⟩],.bool true]) (by simp[results,Tryz.results37,go_sem, *]) rfl ⟨rfl,put2 BB.out (Nat.le_refl _) _ _⟩
 ·rw[if_neg h0];go_enter Tryz.func37,Tryz.ntmps37;go_wp2_with fail;obtain⟨W,hW,BW,hz⟩:∃W,w.alloc (.cells #[.string ⟨#[]⟩,.string ⟨#[]⟩] 28)=W∧Below w.heap.size w W∧Zc w.heap.size (.string ⟨#[]⟩) (.string ⟨#[]⟩) W:=⟨_,rfl,Below.alloc (Below.refl _ _) (Nat.le_refl _) _,zc_new _ _ _ _⟩;rw[hW];clear hW ba;refine((hs▸esign hx _:Calls _ _ _ _ (GiveI _ s))).mono ?_;rintro r w1 ⟨rfl,b⟩;have hz1:=hz.below b;have z0:=hz1.c0;have z1:=hz1.c1;have z2:=hz1.f0;have z3:=hz1.f1
  have BB:=zh (Below.more BW b);have b0':=BB.out;clear b hz hz1;go_wp2_with fail;refine bodyPost_ret (v:=.tuple #[.agg #[.string ⟨(rd z).1.toArray⟩,.string ⟨(rd z).2.toArray⟩],.bool true]) (by simp[results,Tryz.results37,go_sem, *]) rfl ⟨rfl,put2 BB.out (Nat.le_refl _) _ _⟩
end Go.Proofs.YtghioekjghmdaaaGreatDoor
