/- Own work. -/
import Derived.Test.YtcebkcilkhebeaaGreatDoorTermNum
import Derived.Test.YtcebkcilkhebeaaGreatDoorRowsMM
import Derived.Laws.Cover1
set_option linter.unusedSimpArgs false
set_option linter.unusedVariables false
namespace Go.Proofs.YtcebkcilkhebeaaGreatDoor
namespace Tm
theorem top_eq{x y:Nd}(hx:okN x=true)(hy:okN y=true)(h:x.op=y.op)(h5:5≤x.op):x=y:=by
 rw[ok_more hx (.inr h5),ok_more hy (.inr (h▸h5)),h]
end Tm
namespace Tm
def ds(st:List Tr):List Int:=st.map fun s=>((dp s:Nat):Int)
end Tm
end Go.Proofs.YtcebkcilkhebeaaGreatDoor
namespace Go.Proofs.YtcebkcilkhebeaaGreatDoor
open Go.RowKit
open Tm (Nd Tr arN arI formB)
end Go.Proofs.YtcebkcilkhebeaaGreatDoor
namespace Go.Proofs.YtcebkcilkhebeaaGreatDoor
open Go.RowKit
open Tm (Nd joinT plainN)
end Go.Proofs.YtcebkcilkhebeaaGreatDoor
namespace Go.Proofs.YtcebkcilkhebeaaGreatDoor
open Go.RowKit
structure Lq(x:Rat)(k:Nat):Prop where
 num:x.num.natAbs<10 ^ k
 den:x.den<10 ^ k
 le:k≤10000
 pos:0<k
theorem Lq.of_text{n d:ByteArray}{k:Nat}(h:isR (n.data.toList,d.data.toList)=true)(hn:n.size≤k)(hd:d.size≤k)(hk:k≤10000):Lq (valR (n.data.toList,d.data.toList)) k:=by
 have h1:=isR_isW h;have h2:=isR_isN h;have hp:0<d.data.toList.length:=isW_pos (l:=d.data.toList) (by
  have e:d.data.toList=dig (valR (n.data.toList,d.data.toList)).den:=(isR_den h).1;rw[e];exact isW_dig _)
 have hd':d.data.toList.length≤k:=hd;have hn':n.data.toList.length≤k:=hn;refine⟨?_,?_,hk,by omega⟩
 ·rw[valR_num h];exact Nat.lt_of_lt_of_le (Ltw.own h1 (by show n.data.toList.length≤_;omega)).abs (Nat.pow_le_pow_right (by decide) hn')
 ·rw[valR_den h];exact Nat.lt_of_lt_of_le (nat_lt h2) (Nat.pow_le_pow_right (by decide) hd')
section
variable {x y : Rat} {j k : Nat}
end
section
variable {x y z : Rat} {j k : Nat}
end
theorem rdN_int(n:Int):rdN (n:Rat)=wd n:=by unfold rdN;rw[Rat.num_intCast]
theorem rdD_int(n:Int):rdD (n:Rat)=[49]:=by unfold rdD;rw[Rat.den_intCast];exact dig_1
theorem qOf(n:Int)(h0:-9223372036854775808≤n)(h1:n≤9223372036854775807)(w:World)(ht:GoodT w) :
  Calls Tryz.prog 45 #[.int .i64 n] w (GiveR w (rdN (n:Rat),rdD (n:Rat))):=by
 rw[rdN_int,rdD_int];exact qof_any n w h0 h1 ht
theorem one_c{a b:Int}{q:List UInt8×List UInt8}(h:(!(b==0)&&isR q&&decide (valR q=Rat.divInt a b))=true):(makeR (wd a) (wd b)).1=q:=by
 simp only[Bool.and_eq_true,decide_eq_true_eq,Bool.not_eq_true',beq_eq_false_iff_ne,ne_eq]at h;rw[makeR_ww h.1.1,← h.2];exact rd_valR h.1.2
end Go.Proofs.YtcebkcilkhebeaaGreatDoor
set_option maxHeartbeats 1000000
set_option maxRecDepth 100000
namespace Go.Proofs.YtcebkcilkhebeaaGreatDoor
open Go.RowKit
theorem rqof_any(n:Int)(w:World)(h0:-9223372036854775808≤n)(h1:n≤9223372036854775807) :
  Calls Tryz.prog 15 #[.int .i64 n] w (GiveR w (wd n,[49])):=by
 have ca:=fun w=>rwof_any n w h0 h1;generalize wd n=s at *;clear h0 h1;have CA:=zh ca;clear ca;go_enter Tryz.func15,Tryz.ntmps15;go_wp2_with fail;obtain⟨W,hW,BW,sW,r0,r1,r2,r3⟩:=box0z w (.string ⟨#[]⟩) (.string ⟨#[]⟩) 23;have hB:=zh (Nat.le_refl W.heap.size);rw[hW];clear hW;have b0:=Below.refl W.heap.size W;refine(CA.out _).mono ?_;rintro e w1 ⟨rfl,b⟩;have b1:=Below.more b0 b;clear b;go_wp2_with fail;refine bodyPost_ret (v:=.agg #[.string ⟨s.toArray⟩,.string ⟨#[49]⟩]) (by simp[results,Tryz.results15,go_sem, *]) rfl ⟨rfl,?_⟩;exact put2 (Below.more BW b1) (Nat.le_refl _) _ _
section
variable {x y z : Rat} {j k : Nat}
end
end Go.Proofs.YtcebkcilkhebeaaGreatDoor
namespace Go.Proofs.YtcebkcilkhebeaaGreatDoor
open Go.RowKit
structure NoB(w:World):Prop where
 ok:True
theorem noB(w:World):NoB w:=⟨trivial⟩
end Go.Proofs.YtcebkcilkhebeaaGreatDoor
namespace Go.Proofs.YtcebkcilkhebeaaGreatDoor
open Go.RowKit
theorem more{ls:List Ln}{P:Ln→Prop}{k:Nat}{z:Ln}(h:∀ (j:Nat) (x:Ln),j<k→ls[j]?=some x→P x)(hz:ls[k]?=some z)(hp:P z):∀ (j:Nat) (x:Ln),j<k+1→ls[j]?=some x→P x:=fun j x hj hx=>by
 by_cases e:j=k
 ·subst e;rw[hz]at hx;exact Option.some.inj hx▸hp
 ·exact h j x (by omega) hx
end Go.Proofs.YtcebkcilkhebeaaGreatDoor
namespace Go.Proofs.YtcebkcilkhebeaaGreatDoor
open Go.RowKit
open Tm (Nd astB)
end Go.Proofs.YtcebkcilkhebeaaGreatDoor
namespace Go.Proofs.YtcebkcilkhebeaaGreatDoor
open Go.RowKit
open Tm (Nd astB okN)
end Go.Proofs.YtcebkcilkhebeaaGreatDoor
