/- EvalChoice: for any three fractions the law returns true: an if comes to its second term just if the first one is above 0, else to its third one; a greater one is not below both, a lesser one not above; both together are the sum of both. Conditions: none on the arguments; the listed package variables read as laid (tied to the program's text). -/
import Derived.Test.YtghioekjghmdaaaGreatDoorCards
import Derived.Test.YtghioekjghmdaaaGreatDoorTie
import Derived.Stop.Joined
import Derived.SizedLaws
import Derived.Carry
import Derived.Test.YtghioekjghmdaaaGreatDoorWChoice13
import Derived.Test.YtghioekjghmdaaaGreatDoorAllEv7
set_option linter.unusedVariables false
set_option maxRecDepth 100000
namespace Go.Proofs.YtghioekjghmdaaaGreatDoor.evalChoice
open Go.ChangeShapes Go.WideShapes Go.ChangeAt Go.WideMaps Go.WideElems Go.RowKit
open Go.ChangeMaps (open_string shut_string)
theorem own:ownKnob Tryz.prog.godebug=none:=by kernel_rfl
theorem lifted(os:Os)(started:os.Started)(H:Type)(enc:TypeId×Value→H) :
  ReturnsInHanded {} Tryz.checked os 8 .any (fun w args=>(Rows.evalChoiceSpec.pre enc Tryz.prog Tryz.f8 [] false w args∧laidMetH Tryz.prog Rows.evalChoiceRow.laid w)∧sizedMet enc Tryz.prog Tryz.f8 (OpenSpec.ofChange Rows.evalChoiceSpec) false w args)
   (Rows.evalChoiceSpec.post enc Tryz.prog Tryz.f8 false true false false):=by
 refine lift_both (C:=Tryz.checked) (X:=fun w _=>laidMetH Tryz.prog Rows.evalChoiceRow.laid w) (fun _ _ _ hh h=>h.of_heap hh) own started (by kernel_rfl) Tryz.func8
  (ChangeSpec.witness_shaped (enc:=enc) (C:=Tryz.checked) (os:=os) (X:=fun w _=>laidMetH Tryz.prog Rows.evalChoiceRow.laid w) false (World.laidAll Tryz.prog os Rows.evalChoiceRow.laid) #[.agg #[.string ⟨#[]⟩,.string ⟨#[]⟩],.agg #[.string ⟨#[]⟩,.string ⟨#[]⟩],.agg #[.string ⟨#[]⟩,.string ⟨#[]⟩]] 8 (World.laidAll_os _ _ _)
   (World.shaped_of_ZipB (by kernel_rfl) (by kernel_rfl)) (by kernel_rfl) (by kernel_rfl) (by kernel_rfl)
   (by rw[MakeChecks.laidMetH_plain _ _ _ (by kernel_rfl)];exact laidMet_laidAll _ (by kernel_rfl) (by kernel_rfl))) ?_
 intro W base args ds gs before hval0 hW _ hL hS;have hval:∀ (j:Nat) t v,Tryz.f8.params[j]?=some t→args[j]?=some v→Value.okWide Tryz.prog W .any base t v:=hval0;have hW':=hW;obtain⟨p,q,hA0,hV,rfl,_,_⟩:=hW;have hA:DataW.TrodAll enc Tryz.prog W 0 (fun _=>true) true Tryz.f8.params.toList args.toList ds p:=hA0;rw[Tryz.params8]at hA hval;obtain⟨v0,vs0,d0,ds0,p0,q0,hargs,rfl,rfl,h0,r0⟩:=trodAll_cons hA;obtain⟨v1,vs1,d1,ds1,p1,q1,rfl,rfl,rfl,h1,r1⟩:=trodAll_cons r0;obtain⟨v2,vs2,d2,ds2,p2,q2,rfl,rfl,rfl,h2,r2⟩:=trodAll_cons r1;obtain⟨rfl,rfl,rfl⟩:=trodAll_nil r2;obtain rfl:args=#[v0,v1,v2]:=by cases args;simp_all
 obtain⟨rfl,rfl⟩:=trodVars_none hV;obtain⟨x0,y0,rfl,rfl,rfl,w0,u0⟩:=open_rat (hval 0 28 v0 rfl rfl) h0;obtain⟨x1,y1,rfl,rfl,rfl,w1,u1⟩:=open_rat (hval 1 28 v1 rfl rfl) h1;obtain⟨x2,y2,rfl,rfl,rfl,w2,u2⟩:=open_rat (hval 2 28 v2 rfl rfl) h2;simp only[List.append_nil]at hW';rw[MakeChecks.laidMetH_plain _ _ _ (by kernel_rfl)]at hL;have hT:GoodX W:=goodX_of hL hS;clear hA0 hval0;refine(choice13_any evalC x0.data.toList y0.data.toList x1.data.toList y1.data.toList x2.data.toList y2.data.toList W ⟨w0,u0,w1,u1,w2,u2⟩ hT).mono fun e W' ⟨he,hb⟩=>?_;subst he;exact⟨_,rfl,_,_,_,[],[],[],hW',trodAll_mk1 (shut_bool Tryz.underlying4 _),(trodAll_cons_mk (shut_rat w0 u0) (trodAll_cons_mk (shut_rat w1 u1) (trodAll_cons_mk (shut_rat w2 u2) trodAll_mk0))),rfl,hb.frame _,fun h=>by cases h⟩
theorem row_holds:Rows.EvalChoiceSaid :=
 OpenClaim.holds_of_wide 8 Tryz.f8 rfl rfl rfl rfl rfl rfl rfl ⟨rfl,rfl,rfl,rfl,rfl⟩ rfl rfl rfl rfl rfl (by kernel_rfl) Tryz.func8 (by kernel_rfl)
  (of_decide_eq_true (by kernel_rfl)) (by unfold Func.isWrapper;first|(rw[if_pos (by decide +kernel)];kernel_rfl)|(rw[if_neg (by decide +kernel)];exact⟨rfl,rfl⟩))
  (fun os started H enc _=>lifted os started H enc)
theorem proved:Rows.EvalChoiceCardSaid :=
 Claim7.holds_tied_plain_at .later [] Rows.evalChoiceCard.laidKinds true Rows.evalChoiceCard.stood.harness false row_holds (fun _ h=>by cases h) (by kernel_rfl) (fun _ h=>by cases h) evalChoice_row_tie rfl ⟨rfl,rfl⟩ (by kernel_rfl) rfl
  (fun f fn hf hfn=>by
   obtain rfl : f = 8 := Option.some.inj ((show Tryz.prog.funcNamed "debenture/debenturelaw13.EvalChoice" = some 8 by kernel_rfl).symm.trans hf) |>.symm
   obtain rfl:fn=Tryz.f8:=(Option.some.inj (Tryz.func8.symm.trans hfn)).symm;exact⟨by kernel_rfl,fun j t ht=>by
    rw[Tryz.params8]at ht;have hm:t∈[28,28,28]:=by simpa using Array.mem_of_getElem? ht
    have hall:([28,28,28].all fun u=>!Tryz.prog.wantsStandIn u)=true:=by kernel_rfl
    exact(show Tryz.prog.wantsStandIn t=false by simpa using List.all_eq_true.1 hall t hm)⟩)
  (by kernel_rfl)
#print axioms proved
end Go.Proofs.YtghioekjghmdaaaGreatDoor.evalChoice
