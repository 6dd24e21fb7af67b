/- ParseSums: for any numbers the law returns true: 1 to 60 numbers from 0 to 1000, parted by signs, are parsed from left to right: they come to what they are, one behind the other. Conditions: none on the arguments; the listed package variables read as laid (tied to the program's text). -/
import Derived.Test.YtmllklfjngapiaaGreatDoorCards
import Derived.Test.YtmllklfjngapiaaGreatDoorTie
import Derived.Stop.Joined
import Derived.Test.YtmllklfjngapiaaGreatDoorWSums11M
set_option linter.unusedVariables false
set_option maxRecDepth 100000
namespace Go.Proofs.YtmllklfjngapiaaGreatDoor.parseSums
open Go.ChangeShapes Go.WideShapes Go.ChangeAt Go.WideMaps Go.WideElems Go.RowKit
open Go.ChangeMaps (open_string shut_string)
theorem own:ownKnob Tryz.prog.godebug=none:=by kernel_rfl
theorem lifted(os:Os)(started:os.Started)(H:Type)(enc:TypeId×Value→H) :
  ReturnsInHanded {} Tryz.checked os 5 .any (fun w args=>(Rows.parseSumsSpec.pre enc Tryz.prog Tryz.f5 [] false w args∧laidMetH Tryz.prog Rows.parseSumsRow.laid w)∧sizedMet enc Tryz.prog Tryz.f5 (OpenSpec.ofChange Rows.parseSumsSpec) false w args)
   (Rows.parseSumsSpec.post enc Tryz.prog Tryz.f5 false true false false):=by
 refine lift_both (C:=Tryz.checked) (X:=fun w _=>laidMetH Tryz.prog Rows.parseSumsRow.laid w) (fun _ _ _ hh h=>h.of_heap hh) own started (by kernel_rfl) Tryz.func5
  (ChangeSpec.witness_shaped (enc:=enc) (C:=Tryz.checked) (os:=os) (X:=fun w _=>laidMetH Tryz.prog Rows.parseSumsRow.laid w) false (World.laidAll Tryz.prog os Rows.parseSumsRow.laid) #[.slice none 0 0] 8 (World.laidAll_os _ _ _)
   (World.shaped_of_ZipB (by kernel_rfl) (by kernel_rfl)) (by kernel_rfl) (by kernel_rfl) (by kernel_rfl)
   (by rw[MakeChecks.laidMetH_plain _ _ _ (by kernel_rfl)];exact laidMet_laidAll _ (by kernel_rfl) (by kernel_rfl))) ?_
 intro W base args ds gs before hval0 hW hZ0 hL hS;have hval:∀ (j:Nat) t v,Tryz.f5.params[j]?=some t→args[j]?=some v→Value.okWide Tryz.prog W .any base t v:=hval0;have hW':=hW;obtain⟨p,q,hA0,hV,rfl,_,_⟩:=hW;have hA:DataW.TrodAll enc Tryz.prog W 0 (fun _=>true) true Tryz.f5.params.toList args.toList ds p:=hA0;rw[Tryz.params5]at hA hval;have hZ:(DataW.weightsEach Tryz.prog (Tryz.f5.params.toList++Rows.parseSumsSpec.plain.varTypes Tryz.prog) (ds++gs)).all (·≤reachBytes)=true:=hZ0;clear hZ0;rw[Tryz.params5]at hZ;have hlt:∀x∈p++q,x.block<W.heap.size:=fun x hx=>hW'.lt x hx;obtain⟨v0,vs0,d0,ds0,p0,q0,hargs,rfl,rfl,h0,r0⟩:=trodAll_cons hA;obtain⟨rfl,rfl,rfl⟩:=trodAll_nil r0;obtain rfl:args=#[v0]:=by cases args;simp_all
 obtain⟨rfl,rfl⟩:=trodVars_none hV;obtain⟨q0',c0,l0,rfl,hc0,hL0,hu0⟩:=open_ints (okWide_slice Tryz.underlying34 (hval 0 34 v0 rfl rfl)) h0;rw[MakeChecks.laidMetH_plain _ _ _ (by kernel_rfl)]at hL;have hT:GoodP W:=goodP_of hL hS;clear hA0 hval0;refine(sums11_any q0' c0 l0 W hT hL0 hu0).mono fun e W' ⟨he,hb⟩=>?_;subst he;exact⟨_,rfl,_,_,_,[],_,[],hW',trodAll_mk1 (shut_bool Tryz.underlying4 _),(trodAll_cons_mk (Below.trod laidOutT (by kernel_rfl) (of_decide_eq_true (by kernel_rfl)) h0 hb (fun x hx=>hlt x (by simp[hx]))) trodAll_mk0),rfl,hb.frame _,fun h=>by cases h⟩
theorem row_holds:Rows.ParseSumsSaid :=
 OpenClaim.holds_of_wide 5 Tryz.f5 rfl rfl rfl rfl rfl rfl rfl ⟨rfl,rfl,rfl,rfl,rfl⟩ rfl rfl rfl rfl rfl (by kernel_rfl) Tryz.func5 (by kernel_rfl)
  (of_decide_eq_true (by kernel_rfl)) (by unfold Func.isWrapper;first|(rw[if_pos (by decide +kernel)];kernel_rfl)|(rw[if_neg (by decide +kernel)];exact⟨rfl,rfl⟩))
  (fun os started H enc _=>lifted os started H enc)
theorem proved:Rows.ParseSumsCardSaid :=
 Claim7.holds_tied_plain_at .later [] Rows.parseSumsCard.laidKinds true Rows.parseSumsCard.stood.harness true row_holds (fun _ h=>by cases h) (by kernel_rfl) (fun _ h=>by cases h) parseSums_row_tie rfl ⟨rfl,rfl⟩ (by kernel_rfl) rfl
  (fun f fn hf hfn=>by
   obtain rfl : f = 5 := Option.some.inj ((show Tryz.prog.funcNamed "debenture/debenturelaw11.ParseSums" = some 5 by kernel_rfl).symm.trans hf) |>.symm
   obtain rfl:fn=Tryz.f5:=(Option.some.inj (Tryz.func5.symm.trans hfn)).symm;exact⟨by kernel_rfl,fun j t ht=>by
    rw[Tryz.params5]at ht;have hm:t∈[34]:=by simpa using Array.mem_of_getElem? ht
    have hall:([34].all fun u=>!Tryz.prog.wantsStandIn u)=true:=by kernel_rfl
    exact(show Tryz.prog.wantsStandIn t=false by simpa using List.all_eq_true.1 hall t hm)⟩)
  (by kernel_rfl)
#print axioms proved
end Go.Proofs.YtmllklfjngapiaaGreatDoor.parseSums
