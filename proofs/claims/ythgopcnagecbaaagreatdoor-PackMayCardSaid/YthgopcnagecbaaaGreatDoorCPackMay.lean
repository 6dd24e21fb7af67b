/- PackMay: for any action the law returns true: an action's pack may be, has a part or two, and keeps the asset just if the action pays cash, or spins off, or splits one for one, of actions of at most 30 digits. Conditions: none on the arguments; the listed package variables read as laid (tied to the program's text). -/
import Derived.Test.YthgopcnagecbaaaGreatDoorCards
import Derived.Test.YthgopcnagecbaaaGreatDoorTie
import Derived.Stop.Joined
import Derived.Lay
import Derived.Test.YthgopcnagecbaaaGreatDoorOpenSh
import Derived.Test.YthgopcnagecbaaaGreatDoorAllPk6
import Derived.Test.YthgopcnagecbaaaGreatDoorWMay16
set_option linter.unusedVariables false
set_option maxRecDepth 100000
namespace Go.Proofs.YthgopcnagecbaaaGreatDoor.packMay
open Go.ChangeShapes Go.WideShapes Go.ChangeAt Go.WideMaps Go.WideElems Go.RowKit
open Go.ChangeMaps (open_string shut_string)
theorem own:ownKnob Tryz.prog.godebug=none:=by kernel_rfl
theorem lifted(os:Os)(started:os.Started)(H:Type)(enc:TypeId×Value→H) :
  ReturnsInHanded {} Tryz.checked os 5 .any (fun w args=>(Rows.packMaySpec.pre enc Tryz.prog Tryz.f5 [] false w args∧laidMetH Tryz.prog Rows.packMayRow.laid w)∧sizedMet enc Tryz.prog Tryz.f5 (OpenSpec.ofChange Rows.packMaySpec) false w args)
   (Rows.packMaySpec.post enc Tryz.prog Tryz.f5 false true false false):=by
 refine returnsInHanded_of_change_and (C:=Tryz.checked) (X:=fun w _=>laidMetH Tryz.prog Rows.packMayRow.laid w) (fun _ _ _ hh h=>h.of_heap hh) own started (by kernel_rfl) Tryz.func5
  (ChangeSpec.witness_shaped (enc:=enc) (C:=Tryz.checked) (os:=os) (X:=fun w _=>laidMetH Tryz.prog Rows.packMayRow.laid w) false (World.laidAll Tryz.prog os Rows.packMayRow.laid) #[.agg #[.string ⟨#[]⟩,.int .i64 0,.string ⟨#[]⟩,.string ⟨#[]⟩,.string ⟨#[]⟩,.string ⟨#[]⟩,.string ⟨#[]⟩,.string ⟨#[]⟩,.int .i64 0,.int .i64 0,.int .i64 0]] 8 (World.laidAll_os _ _ _)
   (World.shaped_of_ZipB (by kernel_rfl) (by kernel_rfl)) (by kernel_rfl) (by kernel_rfl) (by kernel_rfl)
   (by rw[MakeChecks.laidMetH_plain _ _ _ (by kernel_rfl)];exact laidMet_laidAll _ (by kernel_rfl) (by kernel_rfl))) ?_
 intro W base args ds gs before hval0 hW _ hZ0 hL _;have hval:∀ (j:Nat) t v,Tryz.f5.params[j]?=some t→args[j]?=some v→Value.okWide Tryz.prog W .any base t v:=hval0;have hW':=hW;obtain⟨p,q,hA0,hV,rfl,_,_⟩:=hW;have hA:DataW.TrodAll enc Tryz.prog W 0 (fun _=>true) true Tryz.f5.params.toList args.toList ds p:=hA0;rw[Tryz.params5]at hA hval;have hZ:(DataW.weightsEach Tryz.prog (Tryz.f5.params.toList++Rows.packMaySpec.plain.varTypes Tryz.prog) (ds++gs)).all (·≤reachBytes)=true:=hZ0;clear hZ0;rw[Tryz.params5]at hZ;have hlt:∀x∈p++q,x.block<W.heap.size:=fun x hx=>hW'.lt x hx;obtain⟨v0,vs0,d0,ds0,p0,q0,hargs,rfl,rfl,h0,r0⟩:=trodAll_cons hA;obtain⟨rfl,rfl,rfl⟩:=trodAll_nil r0;obtain rfl:args=#[v0]:=by cases args;simp_all
 obtain⟨rfl,rfl⟩:=trodVars_none hV;obtain⟨x0,rfl,s0,t0,u0⟩:=open_act (hval 0 25 v0 rfl rfl) h0 (fun n hn=>by
  have k:=List.all_eq_true.1 hZ _ (DataW.weights_mem_each (j:=0) (t:=25) rfl rfl n hn)
  simpa using k)
 rw[MakeChecks.laidMetH_plain _ _ _ (by kernel_rfl)]at hL;have hT:GoodA W:=goodA_of16 hL;clear hA0 hval0;refine(may16_any packC x0 W (by omega) hT).mono fun e W' ⟨he,hb⟩=>?_;subst he;exact⟨_,rfl,_,_,_,[],_,[],hW',trodAll_mk1 (shut_bool Tryz.underlying4 _),(trodAll_cons_mk (Below.trod laidOutT (by kernel_rfl) (of_decide_eq_true (by kernel_rfl)) h0 hb (fun x hx=>hlt x (by simp[hx]))) trodAll_mk0),rfl,hb.frame _,fun h=>by cases h⟩
theorem row_holds:Rows.PackMaySaid :=
 OpenClaim.holds_of_wide 5 Tryz.f5 rfl rfl rfl rfl rfl rfl rfl ⟨rfl,rfl,rfl,rfl,rfl⟩ rfl rfl rfl rfl rfl (by kernel_rfl) Tryz.func5 (by kernel_rfl)
  (of_decide_eq_true (by kernel_rfl)) (by unfold Func.isWrapper;first|(rw[if_pos (by decide +kernel)];kernel_rfl)|(rw[if_neg (by decide +kernel)];exact⟨rfl,rfl⟩))
  (fun os started H enc _=>lifted os started H enc)
theorem proved:Rows.PackMayCardSaid :=
 Claim7.holds_tied_plain_at .later [] Rows.packMayCard.laidKinds true Rows.packMayCard.stood.harness false row_holds (fun _ h=>by cases h) (by kernel_rfl) (fun _ h=>by cases h) packMay_row_tie rfl ⟨rfl,rfl⟩ (by kernel_rfl) rfl
  (fun f fn hf hfn=>by
   obtain rfl : f = 5 := Option.some.inj ((show Tryz.prog.funcNamed "debenture/debenturelaw16.PackMay" = some 5 by kernel_rfl).symm.trans hf) |>.symm
   obtain rfl:fn=Tryz.f5:=(Option.some.inj (Tryz.func5.symm.trans hfn)).symm;exact⟨by kernel_rfl,fun j t ht=>by
    rw[Tryz.params5]at ht;have hm:t∈[25]:=by simpa using Array.mem_of_getElem? ht
    have hall:([25].all fun u=>!Tryz.prog.wantsStandIn u)=true:=by kernel_rfl
    exact(show Tryz.prog.wantsStandIn t=false by simpa using List.all_eq_true.1 hall t hm)⟩)
  (by kernel_rfl)
#print axioms proved
end Go.Proofs.YthgopcnagecbaaaGreatDoor.packMay
