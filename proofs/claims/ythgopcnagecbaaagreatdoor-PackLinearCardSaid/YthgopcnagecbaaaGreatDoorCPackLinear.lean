/- PackLinear: for any pack and any two rows of fractions the law returns true: by prices that are sums the pack's value is the sum of both values less the cash once; by prices that are all 0 it is the cash, of packs of at most 4 parts of 20 digits that may be, prices of at most 20 digits. Conditions: none on the arguments; the listed package variables read as laid (tied to the program's text). -/
import Derived.Test.YthgopcnagecbaaaGreatDoorCards
import Derived.Test.YthgopcnagecbaaaGreatDoorTie
import Derived.Stop.Joined
import Derived.Lay
import Derived.Test.YthgopcnagecbaaaGreatDoorOpenSh
import Derived.Test.YthgopcnagecbaaaGreatDoorAllPk6
import Derived.Test.YthgopcnagecbaaaGreatDoorWLinear16
set_option linter.unusedVariables false
set_option maxRecDepth 100000
namespace Go.Proofs.YthgopcnagecbaaaGreatDoor.packLinear
open Go.ChangeShapes Go.WideShapes Go.ChangeAt Go.WideMaps Go.WideElems Go.RowKit
open Go.ChangeMaps (open_string shut_string)
theorem own:ownKnob Tryz.prog.godebug=none:=by kernel_rfl
theorem lifted(os:Os)(started:os.Started)(H:Type)(enc:TypeId×Value→H) :
  ReturnsInHanded {} Tryz.checked os 4 .any (fun w args=>(Rows.packLinearSpec.pre enc Tryz.prog Tryz.f4 [] false w args∧laidMetH Tryz.prog Rows.packLinearRow.laid w)∧sizedMet enc Tryz.prog Tryz.f4 (OpenSpec.ofChange Rows.packLinearSpec) false w args)
   (Rows.packLinearSpec.post enc Tryz.prog Tryz.f4 false true false false):=by
 refine returnsInHanded_of_change_and (C:=Tryz.checked) (X:=fun w _=>laidMetH Tryz.prog Rows.packLinearRow.laid w) (fun _ _ _ hh h=>h.of_heap hh) own started (by kernel_rfl) Tryz.func4
  (ChangeSpec.witness_shaped (enc:=enc) (C:=Tryz.checked) (os:=os) (X:=fun w _=>laidMetH Tryz.prog Rows.packLinearRow.laid w) false (World.laidAll Tryz.prog os Rows.packLinearRow.laid) #[.agg #[.slice none 0 0,.string ⟨#[]⟩,.string ⟨#[]⟩],.slice none 0 0,.slice none 0 0] 8 (World.laidAll_os _ _ _)
   (World.shaped_of_ZipB (by kernel_rfl) (by kernel_rfl)) (by kernel_rfl) (by kernel_rfl) (by kernel_rfl)
   (by rw[MakeChecks.laidMetH_plain _ _ _ (by kernel_rfl)];exact laidMet_laidAll _ (by kernel_rfl) (by kernel_rfl))) ?_
 intro W base args ds gs before hval0 hW _ hZ0 hL _;have hval:∀ (j:Nat) t v,Tryz.f4.params[j]?=some t→args[j]?=some v→Value.okWide Tryz.prog W .any base t v:=hval0;have hW':=hW;obtain⟨p,q,hA0,hV,rfl,_,_⟩:=hW;have hA:DataW.TrodAll enc Tryz.prog W 0 (fun _=>true) true Tryz.f4.params.toList args.toList ds p:=hA0;rw[Tryz.params4]at hA hval;have hZ:(DataW.weightsEach Tryz.prog (Tryz.f4.params.toList++Rows.packLinearSpec.plain.varTypes Tryz.prog) (ds++gs)).all (·≤reachBytes)=true:=hZ0;clear hZ0;rw[Tryz.params4]at hZ;have hlt:∀x∈p++q,x.block<W.heap.size:=fun x hx=>hW'.lt x hx;obtain⟨v0,vs0,d0,ds0,p0,q0,hargs,rfl,rfl,h0,r0⟩:=trodAll_cons hA;obtain⟨v1,vs1,d1,ds1,p1,q1,rfl,rfl,rfl,h1,r1⟩:=trodAll_cons r0;obtain⟨v2,vs2,d2,ds2,p2,q2,rfl,rfl,rfl,h2,r2⟩:=trodAll_cons r1;obtain⟨rfl,rfl,rfl⟩:=trodAll_nil r2;obtain rfl:args=#[v0,v1,v2]:=by cases args;simp_all
 obtain⟨rfl,rfl⟩:=trodVars_none hV;obtain⟨q0',c0,x0,rfl,hc0,hl0,hL0⟩:=open_pack (hval 0 28 v0 rfl rfl) h0 (fun n hn=>by
  have k:=List.all_eq_true.1 hZ _ (DataW.weights_mem_each (j:=0) (t:=28) rfl rfl n hn)
  simpa using k)
 obtain⟨q1',c1,l1,rfl,hc1,hl1,hL1,hu1⟩:=open_ratqw (okWide_slice Tryz.underlying42 (hval 1 42 v1 rfl rfl)) h1 (fun n hn=>by
  have k:=List.all_eq_true.1 hZ _ (DataW.weights_mem_each (j:=1) (t:=42) rfl rfl n hn)
  simpa using k)
 obtain⟨q2',c2,l2,rfl,hc2,hl2,hL2,hu2⟩:=open_ratqw (okWide_slice Tryz.underlying42 (hval 2 42 v2 rfl rfl)) h2 (fun n hn=>by
  have k:=List.all_eq_true.1 hZ _ (DataW.weights_mem_each (j:=2) (t:=42) rfl rfl n hn)
  simpa using k)
 rw[MakeChecks.laidMetH_plain _ _ _ (by kernel_rfl)]at hL;have hT:GoodA W:=goodA_of16 hL;clear hA0 hval0;refine(linear16_x q0' q1' q2' c0 c1 c2 x0.parts x0.cash.1 x0.cash.2 l1 l2 packC W hc0 hl0 hc1 hl1 hc2 hl2 hL0 hL1 hL2 hu1 hu2 hT).mono fun e W' ⟨he,hb⟩=>?_;subst he;exact⟨_,rfl,_,_,_,[],_,[],hW',trodAll_mk1 (shut_bool Tryz.underlying4 _),(trodAll_cons_mk (Below.trod laidOutT (by kernel_rfl) (of_decide_eq_true (by kernel_rfl)) h0 hb (fun x hx=>hlt x (by simp[hx]))) (trodAll_cons_mk (Below.trod laidOutT (by kernel_rfl) (of_decide_eq_true (by kernel_rfl)) h1 hb (fun x hx=>hlt x (by simp[hx]))) (trodAll_cons_mk (Below.trod laidOutT (by kernel_rfl) (of_decide_eq_true (by kernel_rfl)) h2 hb (fun x hx=>hlt x (by simp[hx]))) trodAll_mk0))),rfl,hb.frame _,fun h=>by cases h⟩
theorem row_holds:Rows.PackLinearSaid :=
 OpenClaim.holds_of_wide 4 Tryz.f4 rfl rfl rfl rfl rfl rfl rfl ⟨rfl,rfl,rfl,rfl,rfl⟩ rfl rfl rfl rfl rfl (by kernel_rfl) Tryz.func4 (by kernel_rfl)
  (of_decide_eq_true (by kernel_rfl)) (by unfold Func.isWrapper;first|(rw[if_pos (by decide +kernel)];kernel_rfl)|(rw[if_neg (by decide +kernel)];exact⟨rfl,rfl⟩))
  (fun os started H enc _=>lifted os started H enc)
theorem proved:Rows.PackLinearCardSaid :=
 Claim7.holds_tied_plain_at .later [] Rows.packLinearCard.laidKinds true Rows.packLinearCard.stood.harness false row_holds (fun _ h=>by cases h) (by kernel_rfl) (fun _ h=>by cases h) packLinear_row_tie rfl ⟨rfl,rfl⟩ (by kernel_rfl) rfl
  (fun f fn hf hfn=>by
   obtain rfl : f = 4 := Option.some.inj ((show Tryz.prog.funcNamed "debenture/debenturelaw16.PackLinear" = some 4 by kernel_rfl).symm.trans hf) |>.symm
   obtain rfl:fn=Tryz.f4:=(Option.some.inj (Tryz.func4.symm.trans hfn)).symm;exact⟨by kernel_rfl,fun j t ht=>by
    rw[Tryz.params4]at ht;have hm:t∈[28,42,42]:=by simpa using Array.mem_of_getElem? ht
    have hall:([28,42,42].all fun u=>!Tryz.prog.wantsStandIn u)=true:=by kernel_rfl
    exact(show Tryz.prog.wantsStandIn t=false by simpa using List.all_eq_true.1 hall t hm)⟩)
  (by kernel_rfl)
#print axioms proved
end Go.Proofs.YthgopcnagecbaaaGreatDoor.packLinear
