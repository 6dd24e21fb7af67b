/- Own work. -/
import Derived.Test.YtcebkcilkhebeaaGreatDoorRowsMM
namespace Go.Proofs.YtcebkcilkhebeaaGreatDoor
open Go.RowKit
theorem wpAnyH_phase{P:Program}{ops:Array Oper}{Q:Exit→Act→World→Prop}{md:Region.Mode}{S:World→Prop}{J:Nat→Array Bool→Act→World→Prop}
  (h:∀n l a w,J n l a w→S w→wpAnyH P md ops Q S n l a w∨∃m,n=m+1∧Region.ready md ops l≠[]∧∀i∈Region.ready md ops l,wpOp P ops Q i (fun a' w'=>S w'∧J m (l.setIfInBounds i true) a' w') a w) :
  ∀ (n:Nat) (l:Array Bool) (a:Act) (w:World),J n l a w→S w→wpAnyH P md ops Q S n l a w
 | 0,l,a,w,hJ,hS=>by
  rcases h 0 l a w hJ hS with h1|⟨m,e,_⟩
  ·exact h1
  ·cases e
 | n+1,l,a,w,hJ,hS=>by
  rcases h (n+1) l a w hJ hS with h1|⟨m,e,hne,hi⟩
  ·exact h1
  ·cases e
   exact⟨fun h0=>absurd h0 hne,fun i hm=>wpOp_mono (fun a' w' hk=>⟨hk.1,wpAnyH_phase h n _ a' w' hk.2 hk.1⟩) (hi i hm)⟩
theorem wpAnyH_at{P:Program}{ops:Array Oper}{Q:Exit→Act→World→Prop}{md:Region.Mode}{S:World→Prop}(J:Act→Nat→Array Bool→Act→World→Prop){n:Nat}{l:Array Bool}{a0:Act}{w:World}(h0:J a0 n l a0 w)(hS:S w)
  (h:∀n l a w,J a0 n l a w→S w→wpAnyH P md ops Q S n l a w∨∃m,n=m+1∧Region.ready md ops l≠[]∧∀i∈Region.ready md ops l,wpOp P ops Q i (fun a' w'=>S w'∧J a0 m (l.setIfInBounds i true) a' w') a w):wpAnyH P md ops Q S n l a0 w :=
 wpAnyH_phase h n l a0 w h0 hS
theorem phase_step{P:Program}{ops:Array Oper}{Q:Exit→Act→World→Prop}{md:Region.Mode}{l:Array Bool}{a:Act}{w:World}{K:Nat→Act→World→Prop}(f:Nat→Bool)(hn:(!(Region.ready md ops l).isEmpty&&(Region.ready md ops l).all f)=true)
  (h:∀i,f i=true→wpOp P ops Q i (K i) a w):Region.ready md ops l≠[]∧∀i∈Region.ready md ops l,wpOp P ops Q i (K i) a w:=by
 simp only[Bool.and_eq_true,Bool.not_eq_true',List.isEmpty_eq_false_iff,List.all_eq_true]at hn;exact⟨hn.1,fun i hi=>h i (hn.2 i hi)⟩
def vO:Option Nat→Value
 | none=>undef
 | some b=>.pointer (some ⟨b,0,none⟩)
def nO:Option Nat→Nat
 | none=>0
 | some _=>1
section
variable {B : Nat} {o1 o2 o3 : Option Nat} {w w' : World}
end
end Go.Proofs.YtcebkcilkhebeaaGreatDoor
