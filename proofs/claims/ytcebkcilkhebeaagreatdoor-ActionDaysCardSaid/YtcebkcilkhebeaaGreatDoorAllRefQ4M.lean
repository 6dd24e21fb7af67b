/- Own work. -/
import Derived.Test.YtcebkcilkhebeaaGreatDoorAllRefQ
namespace Go.Proofs.YtcebkcilkhebeaaGreatDoor
open Go.RowKit
end Go.Proofs.YtcebkcilkhebeaaGreatDoor
set_option maxHeartbeats 2000000
set_option maxRecDepth 100000
namespace Go.Proofs.YtcebkcilkhebeaaGreatDoor
open Go.RowKit
theorem len_int{a:Int}(h0:-9223372036854775808≤a)(h1:a≤9223372036854775807):(wd a).length≤20 :=
 Nat.le_trans (wd_length a) (Nat.succ_le_succ (dig_length (k:=19) (by decide) (Nat.lt_of_le_of_lt (show a.natAbs≤9223372036854775808 by omega) (by decide))))
theorem rqone_any(a b:Int)(w:World)(a0:-9223372036854775808≤a)(a1:a≤9223372036854775807)(b0:-9223372036854775808≤b)(b1:b≤9223372036854775807) :
  Calls Tryz.prog 16 #[.int .i64 a,.int .i64 b] w (GiveR w (makeR (wd a) (wd b)).1):=by
 have ca:=fun w=>rwof_any a w a0 a1;have cb:=fun w=>rwof_any b w b0 b1;have l1:=len_int a0 a1;have l2:=len_int b0 b1;generalize wd a=s at *;generalize wd b=t at *;have ck:∀w,Calls Tryz.prog 42 #[.string ⟨s.toArray⟩,.string ⟨t.toArray⟩] w (GiveRB w (makeR s t)):=fun w=>rqmake_any ⟨s.toArray⟩ ⟨t.toArray⟩ w (by rw[size_of];exact Nat.le_trans l1 (by decide)) (by rw[size_of];exact Nat.le_trans l2 (by decide));generalize makeR s t=p at *;clear l1 l2 a0 a1 b0 b1;have CA:=zh ca;have CB:=zh cb;have CK:=zh ck;clear ca cb ck;go_enter Tryz.func16,Tryz.ntmps16;go_wp2_with fail;obtain⟨W,hW,BW,sW,r0,r1,r2,r3⟩:=box0z w (.string ⟨#[]⟩) (.string ⟨#[]⟩) 23;have hB:=zh (Nat.le_refl W.heap.size);rw[hW];clear hW;have b0:=Below.refl W.heap.size W;refine(CA.out _).mono ?_;rintro e w1 ⟨rfl,b⟩;have b1:=Below.more b0 b;clear b;go_wp2_with fail;refine(CB.out _).mono ?_;rintro e w2 ⟨rfl,b⟩;have b2:=Below.more b1 b;clear b;go_wp2_with fail;refine(CK.out _).mono ?_;rintro e w3 ⟨rfl,b⟩;have b3:=Below.more b2 b;clear b;have ba:=fun x=>Below.alloc b3 (Below.size b3) x;go_wp2_with fail;refine bodyPost_ret (v:=.agg #[.string ⟨p.1.1.toArray⟩,.string ⟨p.1.2.toArray⟩]) (by simp[results,Tryz.results16,go_sem, *]) rfl ⟨rfl,?_⟩;exact put2 (Below.more BW (ba _)) (Nat.le_refl _) _ _
end Go.Proofs.YtcebkcilkhebeaaGreatDoor
namespace Go.Proofs.YtcebkcilkhebeaaGreatDoor
open Go.RowKit
def p2(a b:ByteArray×ByteArray)(j:Nat):ByteArray×ByteArray:=if j=0 then a else b
def p3(a b c:ByteArray×ByteArray)(j:Nat):ByteArray×ByteArray:=if j=0 then a else if j=1 then b else c
end Go.Proofs.YtcebkcilkhebeaaGreatDoor
