/- Own work. -/
import Derived.Test.YthgopcnagecbaaaGreatDoorAllRat
set_option maxHeartbeats 2000000
set_option maxRecDepth 100000
namespace Go.Proofs.YthgopcnagecbaaaGreatDoor
open Go.RowKit
theorem Ltw.own{l:List UInt8}(h:isW l=true)(hk:l.length≤100000):Ltw (valW l) l.length:=⟨by rw[wd_valW h];exact Nat.le_refl _,hk⟩
theorem isW_pos{l:List UInt8}(h:isW l=true):0<l.length:=by cases l with|nil=>cases h|cons=>exact Nat.succ_pos _
theorem mulW_len(l r:List UInt8)(h:l.length+r.length+1≤100000):(mulW l r).length≤l.length+r.length+1:=by
 unfold mulW
 cases h1:isW l&&isW r with
 | false=>exact Nat.zero_le _
 | true =>
  rw[Bool.and_eq_true]at h1;exact(Ltw.mul (Ltw.own h1.1 (by omega)) (Ltw.own h1.2 (by omega)) h (isW_pos h1.1)).len
theorem addW_len(l r:List UInt8)(h:l.length+r.length+2≤100000):(addW l r).length≤l.length+r.length+2:=by
 unfold addW
 cases h1:isW l&&isW r with
 | false=>exact Nat.zero_le _
 | true =>
  rw[Bool.and_eq_true]at h1;exact(Ltw.add (Ltw.own h1.1 (by omega)) (Ltw.own h1.2 (by omega)) h).len
theorem size_of(l:List UInt8):(⟨l.toArray⟩:ByteArray).size=l.length:=by show l.toArray.size=_;exact List.size_toArray
theorem alR_len(p q:List UInt8×List UInt8)(h1:p.1.length≤20000)(h2:p.2.length≤20000)(h3:q.1.length≤20000)(h4:q.2.length≤20000):(alR p q).1.length≤40001∧(alR p q).2.length≤40001:=by
 cases h:isR p&&isR q with
 | false=>rw[alR_no h];exact⟨Nat.zero_le _,Nat.zero_le _⟩
 | true =>
  rw[Bool.and_eq_true]at h;rw[←al_both h.1 h.2];exact⟨Nat.le_trans (mulW_len _ _ (by omega)) (by omega),Nat.le_trans (mulW_len _ _ (by omega)) (by omega)⟩
theorem alike_any(n d m c:ByteArray)(w:World)(hn:n.size≤20000)(hd:d.size≤20000)(hm:m.size≤20000)(hc:c.size≤20000) :
  Calls Tryz.prog 77 #[.agg #[.string n,.string d],.agg #[.string m,.string c]] w (GiveSS w (alR (n.data.toList,d.data.toList) (m.data.toList,c.data.toList))):=by
 have cm:=fun w=>qmay_any n d w (by omega) (by omega);have cn:=fun w=>qmay_any m c w (by omega) (by omega);have ca:=fun w=>wmul_any n c w (by omega) (by omega);have cb:=fun w=>wmul_any m d w (by omega) (by omega)
 cases h1:isR (n.data.toList,d.data.toList) with
 | false =>
  rw[h1]at cm;rw[alR_no (by rw[h1];rfl)];clear h1 ca cb cn hn hd hm hc;have CM:=zh cm;clear cm;go_enter Tryz.func77,Tryz.ntmps77;go_wp2_with fail;obtain⟨W,hW,BW,sW,k0,k1,k2,k3⟩:=box2 w (.string n) (.string d) (.string m) (.string c) 23 23;have hB:=zh (Nat.le_refl W.heap.size);rw[hW];clear hW;have b0:=Below.refl W.heap.size W;refine(CM.out _).mono ?_;rintro e w1 ⟨rfl,b⟩;have b1:=Below.more b0 b;clear b;go_wp2_with fail
  go_ret2
  exact⟨rfl,Below.more BW b1⟩
 | true =>
  rw[h1]at cm
  cases h2:isR (m.data.toList,c.data.toList) with
  | false =>
   rw[h2]at cn;rw[alR_no (by rw[h1,h2];rfl)];clear h1 h2 ca cb hn hd hm hc;have CM:=zh cm;have CN:=zh cn;clear cm cn;go_enter Tryz.func77,Tryz.ntmps77;go_wp2_with fail;obtain⟨W,hW,BW,sW,k0,k1,k2,k3⟩:=box2 w (.string n) (.string d) (.string m) (.string c) 23 23;have hB:=zh (Nat.le_refl W.heap.size);rw[hW];clear hW;have b0:=Below.refl W.heap.size W;refine(CM.out _).mono ?_;rintro e w1 ⟨rfl,b⟩;have b1:=Below.more b0 b;clear b;go_wp2_with fail;refine(CN.out _).mono ?_;rintro e w2 ⟨rfl,b⟩;have b2:=Below.more b1 b;clear b;go_wp2_with fail
   go_ret2
   exact⟨rfl,Below.more BW b2⟩
  | true =>
   rw[h2]at cn;have e:alR (n.data.toList,d.data.toList) (m.data.toList,c.data.toList)=(mulW n.data.toList c.data.toList,mulW m.data.toList d.data.toList):=(al_both h1 h2).symm;rw[e];clear e;generalize mulW n.data.toList c.data.toList=x at *;generalize mulW m.data.toList d.data.toList=y at *;clear h1 h2 hn hd hm hc;have CM:=zh cm;have CN:=zh cn;have CA:=zh ca;have CB:=zh cb;clear cm cn ca cb;go_enter Tryz.func77,Tryz.ntmps77;go_wp2_with fail;obtain⟨W,hW,BW,sW,k0,k1,k2,k3⟩:=box2 w (.string n) (.string d) (.string m) (.string c) 23 23;have hB:=zh (Nat.le_refl W.heap.size);rw[hW];clear hW;have b0:=Below.refl W.heap.size W;refine(CM.out _).mono ?_;rintro e w1 ⟨rfl,b⟩;have b1:=Below.more b0 b;clear b;go_wp2_with fail;refine(CN.out _).mono ?_;rintro e w2 ⟨rfl,b⟩;have b2:=Below.more b1 b;clear b;go_wp2_with fail
   go_region_held3 (fun w'=>Below W.heap.size W w')
    (first|(exact b2.drew)|(with_reducible assumption)|(exact Below.alloc (by with_reducible assumption) (Nat.le_trans hB.out (Below.size (by with_reducible assumption))) _)|(exact put2 (by with_reducible assumption) (Nat.le_refl _) _ _)|(exact put2 (by with_reducible assumption) hB.out _ _)|(exact put2 (by with_reducible assumption) (Nat.le_trans hB.out (Below.size (by with_reducible assumption))) _ _))
    (first|(go_at_call 70;(with_reducible show Calls _ _ #[.string n,.string c] _ _);(with_reducible refine(held (W:=W) hB.out (CA.out _) (by assumption)).mono ?_);rintro e w'' ⟨rfl,hb,hw⟩;(first|(have hz:=zc_made0 hb)|(have hz:=zc_made hb)|skip);(try have hz:=Zc.below (by assumption) hb);(try (have z0:=hz.c0;have z1:=hz.c1;have z2:=hz.f0;have z3:=hz.f1)))|(go_at_call 70;(with_reducible show Calls _ _ #[.string m,.string d] _ _);(with_reducible refine(held (W:=W) hB.out (CB.out _) (by assumption)).mono ?_);rintro e w'' ⟨rfl,hb,hw⟩;(first|(have hz:=zc_made0 hb)|(have hz:=zc_made hb)|skip);(try have hz:=Zc.below (by assumption) hb);(try (have z0:=hz.c0;have z1:=hz.c1;have z2:=hz.f0;have z3:=hz.f1))))
   rename_i hH
   go_wp2_with fail
   go_ret2
   exact⟨rfl,Below.more BW hH⟩
theorem qadd_any(n d m c:ByteArray)(w:World)(hn:n.size≤20000)(hd:d.size≤20000)(hm:m.size≤20000)(hc:c.size≤20000) :
  Calls Tryz.prog 38 #[.agg #[.string n,.string d],.agg #[.string m,.string c]] w (GiveR w (addR (n.data.toList,d.data.toList) (m.data.toList,c.data.toList))):=by
 have cl:=fun w=>alike_any n d m c w hn hd hm hc;obtain⟨l1,l2⟩:=alR_len (n.data.toList,d.data.toList) (m.data.toList,c.data.toList) hn hd hm hc;have cd:=fun w=>wmul_any d c w (by omega) (by omega);have e:=al_add (n.data.toList,d.data.toList) (m.data.toList,c.data.toList);rw[←e];clear e;have l3:(mulW d.data.toList c.data.toList).length≤40001:=Nat.le_trans (mulW_len _ _ (by have:d.data.toList.length=d.size:=rfl;have:c.data.toList.length=c.size:=rfl;omega)) (by have:d.data.toList.length=d.size:=rfl;have:c.data.toList.length=c.size:=rfl;omega);generalize mulW d.data.toList c.data.toList=f at *;generalize alR (n.data.toList,d.data.toList) (m.data.toList,c.data.toList)=p at *;obtain⟨a,b⟩:=p;have l1:a.length≤40001:=l1;have l2:b.length≤40001:=l2;have l4:(addW a b).length≤80004:=Nat.le_trans (addW_len a b (by omega)) (by omega);have cs:∀w,Calls Tryz.prog 76 #[.string ⟨a.toArray⟩,.string ⟨b.toArray⟩] w (GiveS w (addW a b)):=fun w=>wadd_any ⟨a.toArray⟩ ⟨b.toArray⟩ w (by rw[size_of];exact Nat.le_trans l1 (by decide)) (by rw[size_of];exact Nat.le_trans l2 (by decide));generalize addW a b=e at *;have ck:∀w,Calls Tryz.prog 69 #[.string ⟨e.toArray⟩,.string ⟨f.toArray⟩] w (GiveRB w (makeR e f)):=fun w=>qmake_any ⟨e.toArray⟩ ⟨f.toArray⟩ w (by rw[size_of];exact Nat.le_trans l4 (by decide)) (by rw[size_of];exact Nat.le_trans l3 (by decide));show Calls _ _ _ _ (GiveR w (makeR e f).1);generalize makeR e f=p at *;clear l1 l2 l3 l4 hn hd hm hc;have CL:=zh cl;have CD:=zh cd;have CS:=zh cs;have CK:=zh ck
 clear cl cd cs ck;go_enter Tryz.func38,Tryz.ntmps38;go_wp2_with fail;obtain⟨W,hW,BW,sW,k0,k1,k2,k3,r0,r1,r2,r3⟩:=box2z w (.string n) (.string d) (.string m) (.string c) (.string ⟨#[]⟩) (.string ⟨#[]⟩) 23 23 23;have hB:=zh (Nat.le_refl W.heap.size);rw[hW];clear hW;have b0:=Below.refl W.heap.size W
 go_region_held3 (fun w'=>Below W.heap.size W w')
  (first|(exact b0.drew)|(with_reducible assumption)|(exact Below.alloc (by with_reducible assumption) (Nat.le_trans hB.out (Below.size (by with_reducible assumption))) _)|(exact put2 (by with_reducible assumption) (Nat.le_refl _) _ _)|(exact put2 (by with_reducible assumption) hB.out _ _)|(exact put2 (by with_reducible assumption) (Nat.le_trans hB.out (Below.size (by with_reducible assumption))) _ _))
  (first|(go_at_call 77;(with_reducible refine(held (W:=W) hB.out (CL.out _) (by assumption)).mono ?_);rintro e w'' ⟨rfl,hb,hw⟩;(first|(have hz:=zc_made0 hb)|(have hz:=zc_made hb)|skip);(try have hz:=Zc.below (by assumption) hb);(try (have z0:=hz.c0;have z1:=hz.c1;have z2:=hz.f0;have z3:=hz.f1)))|(go_at_call 76;(with_reducible refine(held (W:=W) hB.out (CS.out _) (by assumption)).mono ?_);rintro e w'' ⟨rfl,hb,hw⟩;(first|(have hz:=zc_made0 hb)|(have hz:=zc_made hb)|skip);(try have hz:=Zc.below (by assumption) hb);(try (have z0:=hz.c0;have z1:=hz.c1;have z2:=hz.f0;have z3:=hz.f1)))|(go_at_call 70;(with_reducible refine(held (W:=W) hB.out (CD.out _) (by assumption)).mono ?_);rintro e w'' ⟨rfl,hb,hw⟩;(first|(have hz:=zc_made0 hb)|(have hz:=zc_made hb)|skip);(try have hz:=Zc.below (by assumption) hb);(try (have z0:=hz.c0;have z1:=hz.c1;have z2:=hz.f0;have z3:=hz.f1)))|(go_at_call 69;(with_reducible refine(held (W:=W) hB.out (CK.out _) (by assumption)).mono ?_);rintro e w'' ⟨rfl,hb,hw⟩;(first|(have hz:=zc_made0 hb)|(have hz:=zc_made hb)|skip);(try have hz:=Zc.below (by assumption) hb);(try (have z0:=hz.c0;have z1:=hz.c1;have z2:=hz.f0;have z3:=hz.f1))))
 all_goals (go_wp2_with fail)
 all_goals (refine bodyPost_ret (v:=.agg #[.string ⟨p.1.1.toArray⟩,.string ⟨p.1.2.toArray⟩]) (by simp[results,Tryz.results38,go_sem, *]) rfl ⟨rfl,?_⟩)
 all_goals (exact put2 (Below.more BW (by with_reducible assumption)) (Nat.le_add_right w.heap.size 2) _ _)
theorem qmul_any(n d m c:ByteArray)(w:World)(hn:n.size≤20000)(hd:d.size≤20000)(hm:m.size≤20000)(hc:c.size≤20000) :
  Calls Tryz.prog 32 #[.agg #[.string n,.string d],.agg #[.string m,.string c]] w (GiveR w (mulR (n.data.toList,d.data.toList) (m.data.toList,c.data.toList))):=by
 have cm:=fun w=>qmay_any n d w (by omega) (by omega);have cn:=fun w=>qmay_any m c w (by omega) (by omega)
 cases h1:isR (n.data.toList,d.data.toList) with
 | false =>
  rw[h1]at cm;rw[mulR_no (by rw[h1];rfl)];clear h1 cn hn hd hm hc;have CM:=zh cm;clear cm;go_enter Tryz.func32,Tryz.ntmps32;go_wp2_with fail;obtain⟨W,hW,BW,sW,k0,k1,k2,k3,r0,r1,r2,r3⟩:=box2z w (.string n) (.string d) (.string m) (.string c) (.string ⟨#[]⟩) (.string ⟨#[]⟩) 23 23 23;have hB:=zh (Nat.le_refl W.heap.size);rw[hW];clear hW;have b0:=Below.refl W.heap.size W;refine(CM.out _).mono ?_;rintro e w1 ⟨rfl,b⟩;have b1:=Below.more b0 b;clear b;go_wp2_with fail;refine bodyPost_ret (v:=.agg #[.string ⟨#[]⟩,.string ⟨#[]⟩]) (by simp[results,Tryz.results32,go_sem, *]) rfl ⟨rfl,?_⟩;exact put2 (Below.more BW b1) (Nat.le_add_right w.heap.size 2) _ _
 | true =>
  rw[h1]at cm
  cases h2:isR (m.data.toList,c.data.toList) with
  | false =>
   rw[h2]at cn;rw[mulR_no (by rw[h1,h2];rfl)];clear h1 h2 hn hd hm hc;have CM:=zh cm;have CN:=zh cn;clear cm cn;go_enter Tryz.func32,Tryz.ntmps32;go_wp2_with fail;obtain⟨W,hW,BW,sW,k0,k1,k2,k3,r0,r1,r2,r3⟩:=box2z w (.string n) (.string d) (.string m) (.string c) (.string ⟨#[]⟩) (.string ⟨#[]⟩) 23 23 23;have hB:=zh (Nat.le_refl W.heap.size);rw[hW];clear hW;have b0:=Below.refl W.heap.size W;refine(CM.out _).mono ?_;rintro e w1 ⟨rfl,b⟩;have b1:=Below.more b0 b;clear b;go_wp2_with fail;refine(CN.out _).mono ?_;rintro e w2 ⟨rfl,b⟩;have b2:=Below.more b1 b;clear b;go_wp2_with fail;refine bodyPost_ret (v:=.agg #[.string ⟨#[]⟩,.string ⟨#[]⟩]) (by simp[results,Tryz.results32,go_sem, *]) rfl ⟨rfl,?_⟩;exact put2 (Below.more BW b2) (Nat.le_add_right w.heap.size 2) _ _
  | true =>
   rw[h2]at cn;have e:(makeR (mulW n.data.toList m.data.toList) (mulW d.data.toList c.data.toList)).1=mulR (n.data.toList,d.data.toList) (m.data.toList,c.data.toList):=al_mul h1 h2;rw[←e];clear e;have l1:(mulW n.data.toList m.data.toList).length≤40001:=Nat.le_trans (mulW_len _ _ (by have h1:n.data.toList.length=n.size:=rfl;have h2:m.data.toList.length=m.size:=rfl;have h3:d.data.toList.length=d.size:=rfl;have h4:c.data.toList.length=c.size:=rfl;omega)) (by have h1:n.data.toList.length=n.size:=rfl;have h2:m.data.toList.length=m.size:=rfl;have h3:d.data.toList.length=d.size:=rfl;have h4:c.data.toList.length=c.size:=rfl;omega);have l2:(mulW d.data.toList c.data.toList).length≤40001:=Nat.le_trans (mulW_len _ _ (by have h1:n.data.toList.length=n.size:=rfl;have h2:m.data.toList.length=m.size:=rfl;have h3:d.data.toList.length=d.size:=rfl;have h4:c.data.toList.length=c.size:=rfl;omega)) (by have h1:n.data.toList.length=n.size:=rfl;have h2:m.data.toList.length=m.size:=rfl;have h3:d.data.toList.length=d.size:=rfl;have h4:c.data.toList.length=c.size:=rfl;omega);have ca:=fun w=>wmul_any n m w (by omega) (by omega);have cb:=fun w=>wmul_any d c w (by omega) (by omega);generalize mulW n.data.toList m.data.toList=a at *;generalize mulW d.data.toList c.data.toList=b at *;have ck:∀w,Calls Tryz.prog 69 #[.string ⟨a.toArray⟩,.string ⟨b.toArray⟩] w (GiveRB w (makeR a b)):=fun w=>qmake_any ⟨a.toArray⟩ ⟨b.toArray⟩ w (by rw[size_of];exact Nat.le_trans l1 (by decide)) (by rw[size_of];exact Nat.le_trans l2 (by decide))
   generalize makeR a b=p at *;clear h1 h2 l1 l2 hn hd hm hc;have CM:=zh cm;have CN:=zh cn;have CA:=zh ca;have CB:=zh cb;have CK:=zh ck;clear cm cn ca cb ck;go_enter Tryz.func32,Tryz.ntmps32;go_wp2_with fail;obtain⟨W,hW,BW,sW,k0,k1,k2,k3,r0,r1,r2,r3⟩:=box2z w (.string n) (.string d) (.string m) (.string c) (.string ⟨#[]⟩) (.string ⟨#[]⟩) 23 23 23;have hB:=zh (Nat.le_refl W.heap.size);rw[hW];clear hW;have b0:=Below.refl W.heap.size W;refine(CM.out _).mono ?_;rintro e w1 ⟨rfl,b⟩;have b1:=Below.more b0 b;clear b;go_wp2_with fail;refine(CN.out _).mono ?_;rintro e w2 ⟨rfl,b⟩;have b2:=Below.more b1 b;clear b;go_wp2_with fail
   go_region_held3 (fun w'=>Below W.heap.size W w')
    (first|(exact b2.drew)|(with_reducible assumption)|(exact Below.alloc (by with_reducible assumption) (Nat.le_trans hB.out (Below.size (by with_reducible assumption))) _)|(exact put2 (by with_reducible assumption) (Nat.le_refl _) _ _)|(exact put2 (by with_reducible assumption) hB.out _ _)|(exact put2 (by with_reducible assumption) (Nat.le_trans hB.out (Below.size (by with_reducible assumption))) _ _))
    (first|(go_at_call 70;(with_reducible show Calls _ _ #[.string n,.string m] _ _);(with_reducible refine(held (W:=W) hB.out (CA.out _) (by assumption)).mono ?_);rintro e w'' ⟨rfl,hb,hw⟩;(first|(have hz:=zc_made0 hb)|(have hz:=zc_made hb)|skip);(try have hz:=Zc.below (by assumption) hb);(try (have z0:=hz.c0;have z1:=hz.c1;have z2:=hz.f0;have z3:=hz.f1)))|(go_at_call 70;(with_reducible show Calls _ _ #[.string d,.string c] _ _);(with_reducible refine(held (W:=W) hB.out (CB.out _) (by assumption)).mono ?_);rintro e w'' ⟨rfl,hb,hw⟩;(first|(have hz:=zc_made0 hb)|(have hz:=zc_made hb)|skip);(try have hz:=Zc.below (by assumption) hb);(try (have z0:=hz.c0;have z1:=hz.c1;have z2:=hz.f0;have z3:=hz.f1)))|(go_at_call 69;(with_reducible refine(held (W:=W) hB.out (CK.out _) (by assumption)).mono ?_);rintro e w'' ⟨rfl,hb,hw⟩;(first|(have hz:=zc_made0 hb)|(have hz:=zc_made hb)|skip);(try have hz:=Zc.below (by assumption) hb);(try (have z0:=hz.c0;have z1:=hz.c1;have z2:=hz.f0;have z3:=hz.f1))))
   all_goals (go_wp2_with fail)
   all_goals (refine bodyPost_ret (v:=.agg #[.string ⟨p.1.1.toArray⟩,.string ⟨p.1.2.toArray⟩]) (by simp[results,Tryz.results32,go_sem, *]) rfl ⟨rfl,?_⟩)
   all_goals (exact put2 (Below.more BW (by with_reducible assumption)) (Nat.le_add_right w.heap.size 2) _ _)
end Go.Proofs.YthgopcnagecbaaaGreatDoor
