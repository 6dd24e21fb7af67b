/- PackParts: for any pack, any table and any day the law returns true: a pack's value is that of each part alone, and the cash, together, of packs of at most 3 parts of 20 digits that may be, 60 fixes of 40 digits that may be. Conditions: none on the arguments; the listed package variables read as laid (tied to the program's text). -/
import Derived.Test.YthgopcnagecbaaaGreatDoorCards
import Derived.Test.YthgopcnagecbaaaGreatDoorTie
import Derived.Stop.Joined
import Derived.Lay
import Derived.Test.YthgopcnagecbaaaGreatDoorOpenSh
import Derived.Test.YthgopcnagecbaaaGreatDoorAllPk6
import Derived.Test.YthgopcnagecbaaaGreatDoorWParts16
set_option linter.unusedVariables false
set_option maxRecDepth 100000
namespace Go.Proofs.YthgopcnagecbaaaGreatDoor.packParts
open Go.ChangeShapes Go.WideShapes Go.ChangeAt Go.WideMaps Go.WideElems Go.RowKit
open Go.ChangeMaps (open_string shut_string)
theorem own:ownKnob Tryz.prog.godebug=none:=by kernel_rfl
theorem lifted(os:Os)(started:os.Started)(H:Type)(enc:TypeId×Value→H) :
  ReturnsInHanded {} Tryz.checked os 7 .any (fun w args=>(Rows.packPartsSpec.pre enc Tryz.prog Tryz.f7 [] false w args∧laidMetH Tryz.prog Rows.packPartsRow.laid w)∧sizedMet enc Tryz.prog Tryz.f7 (OpenSpec.ofChange Rows.packPartsSpec) false w args)
   (Rows.packPartsSpec.post enc Tryz.prog Tryz.f7 false true false false):=by
 refine returnsInHanded_of_change_and (C:=Tryz.checked) (X:=fun w _=>laidMetH Tryz.prog Rows.packPartsRow.laid w) (fun _ _ _ hh h=>h.of_heap hh) own started (by kernel_rfl) Tryz.func7
  (ChangeSpec.witness_shaped (enc:=enc) (C:=Tryz.checked) (os:=os) (X:=fun w _=>laidMetH Tryz.prog Rows.packPartsRow.laid w) false (World.laidAll Tryz.prog os Rows.packPartsRow.laid) #[.agg #[.slice none 0 0,.string ⟨#[]⟩,.string ⟨#[]⟩],.slice none 0 0,.int .i64 0] 8 (World.laidAll_os _ _ _)
   (World.shaped_of_ZipB (by kernel_rfl) (by kernel_rfl)) (by kernel_rfl) (by kernel_rfl) (by kernel_rfl)
   (by rw[MakeChecks.laidMetH_plain _ _ _ (by kernel_rfl)];exact laidMet_laidAll _ (by kernel_rfl) (by kernel_rfl))) ?_
 intro W base args ds gs before hval0 hW _ hZ0 hL _;have hval:∀ (j:Nat) t v,Tryz.f7.params[j]?=some t→args[j]?=some v→Value.okWide Tryz.prog W .any base t v:=hval0;have hW':=hW;obtain⟨p,q,hA0,hV,rfl,_,_⟩:=hW;have hA:DataW.TrodAll enc Tryz.prog W 0 (fun _=>true) true Tryz.f7.params.toList args.toList ds p:=hA0;rw[Tryz.params7]at hA hval;have hZ:(DataW.weightsEach Tryz.prog (Tryz.f7.params.toList++Rows.packPartsSpec.plain.varTypes Tryz.prog) (ds++gs)).all (·≤reachBytes)=true:=hZ0;clear hZ0;rw[Tryz.params7]at hZ;have hlt:∀x∈p++q,x.block<W.heap.size:=fun x hx=>hW'.lt x hx;obtain⟨v0,vs0,d0,ds0,p0,q0,hargs,rfl,rfl,h0,r0⟩:=trodAll_cons hA;obtain⟨v1,vs1,d1,ds1,p1,q1,rfl,rfl,rfl,h1,r1⟩:=trodAll_cons r0;obtain⟨v2,vs2,d2,ds2,p2,q2,rfl,rfl,rfl,h2,r2⟩:=trodAll_cons r1;obtain⟨rfl,rfl,rfl⟩:=trodAll_nil r2;obtain rfl:args=#[v0,v1,v2]:=by cases args;simp_all
 obtain⟨rfl,rfl⟩:=trodVars_none hV;obtain⟨q0',c0,x0,rfl,hc0,hl0,hL0⟩:=open_pack (hval 0 28 v0 rfl rfl) h0 (fun n hn=>by
  have k:=List.all_eq_true.1 hZ _ (DataW.weights_mem_each (j:=0) (t:=28) rfl rfl n hn)
  simpa using k)
 obtain⟨q1',c1,l1,rfl,hc1,hL1,hd1⟩:=open_fixes (okWide_slice Tryz.underlying29 (hval 1 29 v1 rfl rfl)) h1;have hl1:l1.length≤4611686018427387904:=by
  rcases hd1 with ⟨_,e⟩|⟨es,rest,e,e2⟩
  ·rw[e];exact Nat.zero_le _
  ·subst e;have k:=sized_slice hZ (j:=1) (t:=29) (e:=47) rfl rfl Tryz.underlying29;rw[bytesFix]at k;simp only[reachBytes]at k;omega
 obtain⟨x2,rfl,rfl,rfl,w2⟩:=open_int Tryz.underlying3 (hval 2 3 v2 rfl rfl) h2;have g2:-9223372036854775808≤x2∧x2≤9223372036854775807:=by simpa [Lit.wf,IntKind.min,IntKind.max,IntKind.signed,IntKind.bits] using w2
 rw[MakeChecks.laidMetH_plain _ _ _ (by kernel_rfl)]at hL;have hT:GoodA W:=goodA_of16 hL;clear hA0 hval0;refine(parts16_x q0' q1' c0 c1 x0.parts x0.cash.1 x0.cash.2 l1 x2 packC W hc0 hl0 hc1 hl1 hL0 hL1 hT).mono fun e W' ⟨he,hb⟩=>?_;subst he;exact⟨_,rfl,_,_,_,[],_,[],hW',trodAll_mk1 (shut_bool Tryz.underlying4 _),(trodAll_cons_mk (Below.trod laidOutT (by kernel_rfl) (of_decide_eq_true (by kernel_rfl)) h0 hb (fun x hx=>hlt x (by simp[hx]))) (trodAll_cons_mk (Below.trod laidOutT (by kernel_rfl) (of_decide_eq_true (by kernel_rfl)) h1 hb (fun x hx=>hlt x (by simp[hx]))) (trodAll_cons_mk (shut_int Tryz.underlying3 w2) trodAll_mk0))),rfl,hb.frame _,fun h=>by cases h⟩
theorem row_holds:Rows.PackPartsSaid :=
 OpenClaim.holds_of_wide 7 Tryz.f7 rfl rfl rfl rfl rfl rfl rfl ⟨rfl,rfl,rfl,rfl,rfl⟩ rfl rfl rfl rfl rfl (by kernel_rfl) Tryz.func7 (by kernel_rfl)
  (of_decide_eq_true (by kernel_rfl)) (by unfold Func.isWrapper;first|(rw[if_pos (by decide +kernel)];kernel_rfl)|(rw[if_neg (by decide +kernel)];exact⟨rfl,rfl⟩))
  (fun os started H enc _=>lifted os started H enc)
theorem proved:Rows.PackPartsCardSaid :=
 Claim7.holds_tied_plain_at .later [] Rows.packPartsCard.laidKinds true Rows.packPartsCard.stood.harness false row_holds (fun _ h=>by cases h) (by kernel_rfl) (fun _ h=>by cases h) packParts_row_tie rfl ⟨rfl,rfl⟩ (by kernel_rfl) rfl
  (fun f fn hf hfn=>by
   obtain rfl : f = 7 := Option.some.inj ((show Tryz.prog.funcNamed "debenture/debenturelaw16.PackParts" = some 7 by kernel_rfl).symm.trans hf) |>.symm
   obtain rfl:fn=Tryz.f7:=(Option.some.inj (Tryz.func7.symm.trans hfn)).symm;exact⟨by kernel_rfl,fun j t ht=>by
    rw[Tryz.params7]at ht;have hm:t∈[28,29,3]:=by simpa using Array.mem_of_getElem? ht
    have hall:([28,29,3].all fun u=>!Tryz.prog.wantsStandIn u)=true:=by kernel_rfl
    exact(show Tryz.prog.wantsStandIn t=false by simpa using List.all_eq_true.1 hall t hm)⟩)
  (by kernel_rfl)
#print axioms proved
end Go.Proofs.YthgopcnagecbaaaGreatDoor.packParts
