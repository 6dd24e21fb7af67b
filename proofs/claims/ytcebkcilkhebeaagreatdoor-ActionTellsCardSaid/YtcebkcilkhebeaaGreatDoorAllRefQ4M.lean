/- Own work. -/
import Derived.Test.YtcebkcilkhebeaaGreatDoorAllRefQ
set_option maxHeartbeats 2000000
set_option maxRecDepth 100000
namespace Go.Proofs.YtcebkcilkhebeaaGreatDoor
open Go.RowKit
theorem mulS_eq{p q:List UInt8×List UInt8}(hp:isR p=true)(hq:isR q=true):mulS p.2 q.2=mulW p.2 q.2:=by
 rw[(isR_den hp).1,(isR_den hq).1,mulS_dd,mulW_dd]
theorem rqmul_any(n d m c:ByteArray)(w:World)(hn:n.size≤20000)(hd:d.size≤20000)(hm:m.size≤20000)(hc:c.size≤20000) :
  Calls Tryz.prog 69 #[.agg #[.string n,.string d],.agg #[.string m,.string c]] w (GiveR w (mulR (n.data.toList,d.data.toList) (m.data.toList,c.data.toList))):=by
 have cm:=fun w=>rqmay_any n d w (by omega) (by omega);have cn:=fun w=>rqmay_any m c w (by omega) (by omega)
 cases h1:isR (n.data.toList,d.data.toList) with
 | false =>
  rw[h1]at cm;rw[mulR_no (by rw[h1];rfl)];clear h1 cn hn hd hm hc;have CM:=zh cm;clear cm;go_enter Tryz.func69,Tryz.ntmps69;go_wp2_with fail;obtain⟨W,hW,BW,sW,k0,k1,k2,k3,r0,r1,r2,r3⟩:=box2z w (.string n) (.string d) (.string m) (.string c) (.string ⟨#[]⟩) (.string ⟨#[]⟩) 23 23 23;have hB:=zh (Nat.le_refl W.heap.size);rw[hW];clear hW;have b0:=Below.refl W.heap.size W;refine(CM.out _).mono ?_;rintro e w1 ⟨rfl,b⟩;have b1:=Below.more b0 b;clear b;go_wp2_with fail;refine bodyPost_ret (v:=.agg #[.string ⟨#[]⟩,.string ⟨#[]⟩]) (by simp[results,Tryz.results69,go_sem, *]) rfl ⟨rfl,?_⟩;exact put2 (Below.more BW b1) (Nat.le_add_right w.heap.size 2) _ _
 | true =>
  rw[h1]at cm
  cases h2:isR (m.data.toList,c.data.toList) with
  | false =>
   rw[h2]at cn;rw[mulR_no (by rw[h1,h2];rfl)];clear h1 h2 hn hd hm hc;have CM:=zh cm;have CN:=zh cn;clear cm cn;go_enter Tryz.func69,Tryz.ntmps69;go_wp2_with fail;obtain⟨W,hW,BW,sW,k0,k1,k2,k3,r0,r1,r2,r3⟩:=box2z w (.string n) (.string d) (.string m) (.string c) (.string ⟨#[]⟩) (.string ⟨#[]⟩) 23 23 23;have hB:=zh (Nat.le_refl W.heap.size);rw[hW];clear hW;have b0:=Below.refl W.heap.size W;refine(CM.out _).mono ?_;rintro e w1 ⟨rfl,b⟩;have b1:=Below.more b0 b;clear b;go_wp2_with fail;refine(CN.out _).mono ?_;rintro e w2 ⟨rfl,b⟩;have b2:=Below.more b1 b;clear b;go_wp2_with fail;refine bodyPost_ret (v:=.agg #[.string ⟨#[]⟩,.string ⟨#[]⟩]) (by simp[results,Tryz.results69,go_sem, *]) rfl ⟨rfl,?_⟩;exact put2 (Below.more BW b2) (Nat.le_add_right w.heap.size 2) _ _
  | true =>
   rw[h2]at cn;have e:(makeR (mulW n.data.toList m.data.toList) (mulS d.data.toList c.data.toList)).1=mulR (n.data.toList,d.data.toList) (m.data.toList,c.data.toList):=by
    rw[show mulS d.data.toList c.data.toList=mulW d.data.toList c.data.toList from mulS_eq h1 h2];exact al_mul h1 h2
   rw[←e];clear e;have l1:(mulW n.data.toList m.data.toList).length≤40001:=Nat.le_trans (mulW_len _ _ (by have h1:n.data.toList.length=n.size:=rfl;have h2:m.data.toList.length=m.size:=rfl;have h3:d.data.toList.length=d.size:=rfl;have h4:c.data.toList.length=c.size:=rfl;omega)) (by have h1:n.data.toList.length=n.size:=rfl;have h2:m.data.toList.length=m.size:=rfl;have h3:d.data.toList.length=d.size:=rfl;have h4:c.data.toList.length=c.size:=rfl;omega);have l2:(mulS d.data.toList c.data.toList).length≤40001:=by
    rw[show mulS d.data.toList c.data.toList=mulW d.data.toList c.data.toList from mulS_eq h1 h2];exact Nat.le_trans (mulW_len _ _ (by have h1:n.data.toList.length=n.size:=rfl;have h2:m.data.toList.length=m.size:=rfl;have h3:d.data.toList.length=d.size:=rfl;have h4:c.data.toList.length=c.size:=rfl;omega)) (by have h1:n.data.toList.length=n.size:=rfl;have h2:m.data.toList.length=m.size:=rfl;have h3:d.data.toList.length=d.size:=rfl;have h4:c.data.toList.length=c.size:=rfl;omega)
   have ca:=fun w=>rwmul_any n m w (by omega) (by omega);have cd:=fun w=>rmul_any d c w (by omega) (by omega);generalize mulW n.data.toList m.data.toList=a at *;generalize mulS d.data.toList c.data.toList=b at *;have ck:∀w,Calls Tryz.prog 42 #[.string ⟨a.toArray⟩,.string ⟨b.toArray⟩] w (GiveRB w (makeR a b)):=fun w=>rqmake_any ⟨a.toArray⟩ ⟨b.toArray⟩ w (by rw[size_of];exact Nat.le_trans l1 (by decide)) (by rw[size_of];exact Nat.le_trans l2 (by decide));generalize makeR a b=p at *;clear h1 h2 l1 l2 hn hd hm hc;have CM:=zh cm;have CN:=zh cn;have CA:=zh ca;have CD:=zh cd;have CK:=zh ck;clear cm cn ca cd ck;go_enter Tryz.func69,Tryz.ntmps69;go_wp2_with fail;obtain⟨W,hW,BW,sW,k0,k1,k2,k3,r0,r1,r2,r3⟩:=box2z w (.string n) (.string d) (.string m) (.string c) (.string ⟨#[]⟩) (.string ⟨#[]⟩) 23 23 23;have hB:=zh (Nat.le_refl W.heap.size);rw[hW];clear hW;have b0:=Below.refl W.heap.size W;refine(CM.out _).mono ?_;rintro e w1 ⟨rfl,b⟩;have b1:=Below.more b0 b;clear b;go_wp2_with fail;refine(CN.out _).mono ?_;rintro e w2 ⟨rfl,b⟩;have b2:=Below.more b1 b;clear b;go_wp2_with fail
   first|(go_region_held3 (fun w'=>Below W.heap.size W w')
       (first|(exact b2.drew)|(with_reducible assumption)|(exact Below.alloc (by with_reducible assumption) (Nat.le_trans hB.out (Below.size (by with_reducible assumption))) _)|(exact put2 (by with_reducible assumption) (Nat.le_refl _) _ _)|(exact put2 (by with_reducible assumption) hB.out _ _)|(exact put2 (by with_reducible assumption) (Nat.le_trans hB.out (Below.size (by with_reducible assumption))) _ _))
       (first|(go_at_call 104;(with_reducible refine(held (W:=W) hB.out (CA.out _) (by assumption)).mono ?_);rintro e w'' ⟨rfl,hb,hw⟩;(first|(have hz:=zc_made0 hb)|(have hz:=zc_made hb)|skip);(try have hz:=Zc.below (by assumption) hb);(try (have z0:=hz.c0;have z1:=hz.c1;have z2:=hz.f0;have z3:=hz.f1)))|(go_at_call 105;(with_reducible refine(held (W:=W) hB.out (CD.out _) (by assumption)).mono ?_);rintro e w'' ⟨rfl,hb,hw⟩;(first|(have hz:=zc_made0 hb)|(have hz:=zc_made hb)|skip);(try have hz:=Zc.below (by assumption) hb);(try (have z0:=hz.c0;have z1:=hz.c1;have z2:=hz.f0;have z3:=hz.f1)))|(go_at_call 42;(with_reducible refine(held (W:=W) hB.out (CK.out _) (by assumption)).mono ?_);rintro e w'' ⟨rfl,hb,hw⟩;(first|(have hz:=zc_made0 hb)|(have hz:=zc_made hb)|skip);(try have hz:=Zc.below (by assumption) hb);(try (have z0:=hz.c0;have z1:=hz.c1;have z2:=hz.f0;have z3:=hz.f1)))))|fail
   all_goals (go_wp2_with fail)
   all_goals (refine bodyPost_ret (v:=.agg #[.string ⟨p.1.1.toArray⟩,.string ⟨p.1.2.toArray⟩]) (by simp[results,Tryz.results69,go_sem, *]) rfl ⟨rfl,?_⟩)
   all_goals (exact put2 (Below.more BW (by with_reducible assumption)) (Nat.le_add_right w.heap.size 2) _ _)
end Go.Proofs.YtcebkcilkhebeaaGreatDoor
set_option maxHeartbeats 2000000
set_option maxRecDepth 100000
namespace Go.Proofs.YtcebkcilkhebeaaGreatDoor
open Go.RowKit
theorem len_int{a:Int}(h0:-9223372036854775808≤a)(h1:a≤9223372036854775807):(wd a).length≤20 :=
 Nat.le_trans (wd_length a) (Nat.succ_le_succ (dig_length (k:=19) (by decide) (Nat.lt_of_le_of_lt (show a.natAbs≤9223372036854775808 by omega) (by decide))))
theorem rqone_any(a b:Int)(w:World)(a0:-9223372036854775808≤a)(a1:a≤9223372036854775807)(b0:-9223372036854775808≤b)(b1:b≤9223372036854775807) :
  Calls Tryz.prog 16 #[.int .i64 a,.int .i64 b] w (GiveR w (makeR (wd a) (wd b)).1):=by
 have ca:=fun w=>rwof_any a w a0 a1;have cb:=fun w=>rwof_any b w b0 b1;have l1:=len_int a0 a1;have l2:=len_int b0 b1;generalize wd a=s at *;generalize wd b=t at *;have ck:∀w,Calls Tryz.prog 42 #[.string ⟨s.toArray⟩,.string ⟨t.toArray⟩] w (GiveRB w (makeR s t)):=fun w=>rqmake_any ⟨s.toArray⟩ ⟨t.toArray⟩ w (by rw[size_of];exact Nat.le_trans l1 (by decide)) (by rw[size_of];exact Nat.le_trans l2 (by decide));generalize makeR s t=p at *;clear l1 l2 a0 a1 b0 b1;have CA:=zh ca;have CB:=zh cb;have CK:=zh ck;clear ca cb ck;go_enter Tryz.func16,Tryz.ntmps16;go_wp2_with fail;obtain⟨W,hW,BW,sW,r0,r1,r2,r3⟩:=box0z w (.string ⟨#[]⟩) (.string ⟨#[]⟩) 23;have hB:=zh (Nat.le_refl W.heap.size);rw[hW];clear hW;have b0:=Below.refl W.heap.size W;refine(CA.out _).mono ?_;rintro e w1 ⟨rfl,b⟩;have b1:=Below.more b0 b;clear b;go_wp2_with fail;refine(CB.out _).mono ?_;rintro e w2 ⟨rfl,b⟩;have b2:=Below.more b1 b;clear b;go_wp2_with fail;refine(CK.out _).mono ?_;rintro e w3 ⟨rfl,b⟩;have b3:=Below.more b2 b;clear b;have ba:=fun x=>Below.alloc b3 (Below.size b3) x;go_wp2_with fail;refine bodyPost_ret (v:=.agg #[.string ⟨p.1.1.toArray⟩,.string ⟨p.1.2.toArray⟩]) (by simp[results,Tryz.results16,go_sem, *]) rfl ⟨rfl,?_⟩;exact put2 (Below.more BW (ba _)) (Nat.le_refl _) _ _
end Go.Proofs.YtcebkcilkhebeaaGreatDoor
namespace Go.Proofs.YtcebkcilkhebeaaGreatDoor
open Go.RowKit
def p2(a b:ByteArray×ByteArray)(j:Nat):ByteArray×ByteArray:=if j=0 then a else b
def p3(a b c:ByteArray×ByteArray)(j:Nat):ByteArray×ByteArray:=if j=0 then a else if j=1 then b else c
end Go.Proofs.YtcebkcilkhebeaaGreatDoor
