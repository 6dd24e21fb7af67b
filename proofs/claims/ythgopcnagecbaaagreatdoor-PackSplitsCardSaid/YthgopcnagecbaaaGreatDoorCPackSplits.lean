/- PackSplits: for any two fractions the law returns true: a split is worth so many times the price, a stock dividend one time more than its ratio, a cash dividend the price and the cash, of at most 20 digits. Conditions: none on the arguments; the listed package variables read as laid (tied to the program's text). -/
import Derived.Test.YthgopcnagecbaaaGreatDoorCards
import Derived.Test.YthgopcnagecbaaaGreatDoorTie
import Derived.Stop.Joined
import Derived.Lay
import Derived.Test.YthgopcnagecbaaaGreatDoorOpenSh
import Derived.Test.YthgopcnagecbaaaGreatDoorAllPk6
import Derived.Test.YthgopcnagecbaaaGreatDoorWSplits16
set_option linter.unusedVariables false
set_option maxRecDepth 100000
namespace Go.Proofs.YthgopcnagecbaaaGreatDoor.packSplits
open Go.ChangeShapes Go.WideShapes Go.ChangeAt Go.WideMaps Go.WideElems Go.RowKit
open Go.ChangeMaps (open_string shut_string)
theorem own:ownKnob Tryz.prog.godebug=none:=by kernel_rfl
theorem lifted(os:Os)(started:os.Started)(H:Type)(enc:TypeId×Value→H) :
  ReturnsInHanded {} Tryz.checked os 6 .any (fun w args=>(Rows.packSplitsSpec.pre enc Tryz.prog Tryz.f6 [] false w args∧laidMetH Tryz.prog Rows.packSplitsRow.laid w)∧sizedMet enc Tryz.prog Tryz.f6 (OpenSpec.ofChange Rows.packSplitsSpec) false w args)
   (Rows.packSplitsSpec.post enc Tryz.prog Tryz.f6 false true false false):=by
 refine returnsInHanded_of_change_and (C:=Tryz.checked) (X:=fun w _=>laidMetH Tryz.prog Rows.packSplitsRow.laid w) (fun _ _ _ hh h=>h.of_heap hh) own started (by kernel_rfl) Tryz.func6
  (ChangeSpec.witness_shaped (enc:=enc) (C:=Tryz.checked) (os:=os) (X:=fun w _=>laidMetH Tryz.prog Rows.packSplitsRow.laid w) false (World.laidAll Tryz.prog os Rows.packSplitsRow.laid) #[.agg #[.string ⟨#[]⟩,.string ⟨#[]⟩],.agg #[.string ⟨#[]⟩,.string ⟨#[]⟩]] 8 (World.laidAll_os _ _ _)
   (World.shaped_of_ZipB (by kernel_rfl) (by kernel_rfl)) (by kernel_rfl) (by kernel_rfl) (by kernel_rfl)
   (by rw[MakeChecks.laidMetH_plain _ _ _ (by kernel_rfl)];exact laidMet_laidAll _ (by kernel_rfl) (by kernel_rfl))) ?_
 intro W base args ds gs before hval0 hW _ _ hL _;have hval:∀ (j:Nat) t v,Tryz.f6.params[j]?=some t→args[j]?=some v→Value.okWide Tryz.prog W .any base t v:=hval0;have hW':=hW;obtain⟨p,q,hA0,hV,rfl,_,_⟩:=hW;have hA:DataW.TrodAll enc Tryz.prog W 0 (fun _=>true) true Tryz.f6.params.toList args.toList ds p:=hA0;rw[Tryz.params6]at hA hval;obtain⟨v0,vs0,d0,ds0,p0,q0,hargs,rfl,rfl,h0,r0⟩:=trodAll_cons hA;obtain⟨v1,vs1,d1,ds1,p1,q1,rfl,rfl,rfl,h1,r1⟩:=trodAll_cons r0;obtain⟨rfl,rfl,rfl⟩:=trodAll_nil r1;obtain rfl:args=#[v0,v1]:=by cases args;simp_all
 obtain⟨rfl,rfl⟩:=trodVars_none hV;obtain⟨x0,y0,rfl,rfl,rfl,w0,u0⟩:=open_rat (hval 0 23 v0 rfl rfl) h0;obtain⟨x1,y1,rfl,rfl,rfl,w1,u1⟩:=open_rat (hval 1 23 v1 rfl rfl) h1;simp only[List.append_nil]at hW';rw[MakeChecks.laidMetH_plain _ _ _ (by kernel_rfl)]at hL;have hT:GoodA W:=goodA_of16 hL;clear hA0 hval0;refine(splits16_any packC x0 y0 x1 y1 W hT).mono fun e W' ⟨he,hb⟩=>?_;subst he;exact⟨_,rfl,_,_,_,[],[],[],hW',trodAll_mk1 (shut_bool Tryz.underlying4 _),(trodAll_cons_mk (shut_rat w0 u0) (trodAll_cons_mk (shut_rat w1 u1) trodAll_mk0)),rfl,hb.frame _,fun h=>by cases h⟩
theorem row_holds:Rows.PackSplitsSaid :=
 OpenClaim.holds_of_wide 6 Tryz.f6 rfl rfl rfl rfl rfl rfl rfl ⟨rfl,rfl,rfl,rfl,rfl⟩ rfl rfl rfl rfl rfl (by kernel_rfl) Tryz.func6 (by kernel_rfl)
  (of_decide_eq_true (by kernel_rfl)) (by unfold Func.isWrapper;first|(rw[if_pos (by decide +kernel)];kernel_rfl)|(rw[if_neg (by decide +kernel)];exact⟨rfl,rfl⟩))
  (fun os started H enc _=>lifted os started H enc)
theorem proved:Rows.PackSplitsCardSaid :=
 Claim7.holds_tied_plain_at .later [] Rows.packSplitsCard.laidKinds true Rows.packSplitsCard.stood.harness false row_holds (fun _ h=>by cases h) (by kernel_rfl) (fun _ h=>by cases h) packSplits_row_tie rfl ⟨rfl,rfl⟩ (by kernel_rfl) rfl
  (fun f fn hf hfn=>by
   obtain rfl : f = 6 := Option.some.inj ((show Tryz.prog.funcNamed "debenture/debenturelaw16.PackSplits" = some 6 by kernel_rfl).symm.trans hf) |>.symm
   obtain rfl:fn=Tryz.f6:=(Option.some.inj (Tryz.func6.symm.trans hfn)).symm;exact⟨by kernel_rfl,fun j t ht=>by
    rw[Tryz.params6]at ht;have hm:t∈[23,23]:=by simpa using Array.mem_of_getElem? ht
    have hall:([23,23].all fun u=>!Tryz.prog.wantsStandIn u)=true:=by kernel_rfl
    exact(show Tryz.prog.wantsStandIn t=false by simpa using List.all_eq_true.1 hall t hm)⟩)
  (by kernel_rfl)
#print axioms proved
end Go.Proofs.YthgopcnagecbaaaGreatDoor.packSplits
