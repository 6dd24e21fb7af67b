/- WordLexes: for any text and any tokens the law returns true: the tokens of a text of at most 3000 bytes, or what is wrong, and where, and the print of at most 200 tokens, are as the reference answers, and the fixed calls answer as fixed. (The second form: arguments of a bulk of at most 1048576.) Conditions: none on the arguments; the listed package variables read as laid (tied to the program's text). -/
import Derived.Test.YtcckifhloabpkaaDoorCards
import Derived.Test.YtcckifhloabpkaaDoorTie
import Derived.Deep.DeepHandedRow
import Derived.SevenTiedAt
import Derived.ProofKit
import Derived.OpenShut
import Derived.ShutString
import Derived.Stop.Joined
import Derived.Lay
import Derived.LaidMore
import Derived.MakeChecks
import Derived.SizedLaws
import Derived.Carry
import Derived.Test.YtcckifhloabpkaaDoorOpenK
import Derived.Test.YtcckifhloabpkaaDoorWLexes9
import Derived.Test.YtcckifhloabpkaaDoorAllWord
namespace Go.Proofs.YtcckifhloabpkaaDoor.wordLexes
open Go.ChangeShapes Go.WideShapes Go.ChangeAt Go.WideMaps Go.WideElems Go.RowKit
open Go.ChangeMaps (open_string shut_string)
set_option linter.unusedVariables false
theorem own : ownKnob Tryd.prog.godebug = none := by kernel_rfl
theorem laid_met (os : Os) : laidMet Tryd.prog Rows.wordLexesUptoRow.laid ((World.laidAll Tryd.prog os Rows.wordLexesUptoRow.laid).forCall (fun _ _ => 0) ⟨#[], #[.string ⟨#[]⟩, .slice none 0 0], []⟩).memory :=
  laidMet_laidAll _ (by kernel_rfl) (by kernel_rfl)
theorem reads (os : Os) {H : Type} (enc : TypeId × Value → H) : ∃ places, DataW.whole enc Tryd.prog ((World.laidAll Tryd.prog os Rows.wordLexesUptoRow.laid).forCall (fun _ _ => 0) ⟨#[], #[.string ⟨#[]⟩, .slice none 0 0], []⟩).memory Tryd.f3.params.toList Rows.wordLexesSpec.vars false #[.string ⟨#[]⟩, .slice none 0 0].toList 8 = some ([.lit (.string []), .nil], [], places) :=
  ⟨[], by kernel_rfl⟩
set_option maxRecDepth 100000 in
theorem lifted (os : Os) (started : os.Started) (H : Type) (enc : TypeId × Value → H) (F : Stop.Interp) :
    ReturnsInHanded {} Tryd.checked os 3 .any ((Rows.OpenSpec.upto Rows.wordLexesSpec).preRow enc Tryd.prog Tryd.f3 Rows.wordLexesUptoRow.domain false Rows.wordLexesUptoRow.laid) (((Rows.OpenSpec.upto Rows.wordLexesSpec).at F).post enc Tryd.prog Tryd.f3 false true false false) := by
  obtain ⟨places, hx⟩ := reads os enc
  refine returnsInHanded_of_row (C := Tryd.checked) (s := Rows.OpenSpec.upto Rows.wordLexesSpec) own started (by kernel_rfl) Tryd.func3
    (witness_row_at (enc := enc) (C := Tryd.checked) false (World.laidAll Tryd.prog os Rows.wordLexesUptoRow.laid) #[.string ⟨#[]⟩, .slice none 0 0] (World.laidAll_os _ _ _) (by kernel_rfl) (by kernel_rfl) (by kernel_rfl)
      (OpenSpec.preRow_of_cond 8 hx (by kernel_rfl) (fun k hk => by cases hk; kernel_rfl) (by kernel_rfl) (laid_met os))) ?_
  intro W base args ds gs before hval0 hW _ hcond hZ0 hL _ _
  have hval : ∀ (j : Nat) t v, Tryd.f3.params[j]? = some t → args[j]? = some v → Value.okWide Tryd.prog W .any base t v := hval0
  have hW' := hW
  have hbk : Rows.uptoBulkAll (ds ++ gs) ≤ 1048576 := of_decide_eq_true (hcond _ rfl)
  obtain ⟨p, q, hA0, hV, rfl, _, _⟩ := hW
  have hA : DataW.TrodAll enc Tryd.prog W 0 (fun _ => true) true Tryd.f3.params.toList args.toList ds p := hA0
  rw [Tryd.params3] at hA hval
  have hZ : (DataW.weightsEach Tryd.prog (Tryd.f3.params.toList ++ Rows.wordLexesSpec.plain.varTypes Tryd.prog) (ds ++ gs)).all (· ≤ reachBytes) = true := hZ0
  clear hZ0
  rw [Tryd.params3] at hZ
  have hlt : ∀ x ∈ p ++ q, x.block < W.heap.size := fun x hx => hW'.lt x hx
  obtain ⟨v0, vs0, d0, ds0, p0, q0, hargs, rfl, rfl, h0, r0⟩ := trodAll_cons hA
  obtain ⟨v1, vs1, d1, ds1, p1, q1, rfl, rfl, rfl, h1, r1⟩ := trodAll_cons r0
  obtain ⟨rfl, rfl, rfl⟩ := trodAll_nil r1
  obtain rfl : args = #[v0, v1] := by cases args; simp_all
  obtain ⟨rfl, rfl⟩ := trodVars_none hV
  obtain ⟨x0, rfl, rfl, rfl, w0⟩ := open_string Tryd.underlying9 (hval 0 9 v0 rfl rfl) h0
  have g0 : x0.data.toList.length ≤ 4611686018427387904 := Nat.le_trans (sized_string hZ (j := 0) (t := 9) rfl rfl) (by decide)
  obtain ⟨q1', c1, l1, rfl, hc1, hL1, hw1, hb1, hd1⟩ := open_toks (okWide_slice Tryd.underlying22 (hval 1 22 v1 rfl rfl)) h1
  have hu1 : ∀ u ∈ l1, u.length ≤ 140737488355328 := fun u hu => by
    have k := of_decide_eq_true (List.all_eq_true.1 hZ _ (DataW.weights_mem_each (j := 1) (t := 22) rfl rfl _ (hw1 u hu)))
    simp only [reachBytes] at k
    omega
  have hl1 : l1.length ≤ 4611686018427387904 := by
    rcases hd1 with ⟨_, e⟩ | ⟨es, rest, e, e2⟩
    · rw [e]; exact Nat.zero_le _
    · subst e
      have k := sized_slice hZ (j := 1) (t := 22) (e := 31) rfl rfl Tryd.underlying22
      rw [bytesTok] at k
      simp only [reachBytes] at k
      omega
  rw [MakeChecks.laidMetH_plain _ _ _ (by kernel_rfl)] at hL
  have hT : GoodL W := goodL_of hL
  have hu1 : ∀ u ∈ l1, u.length ≤ 1048576 := fun u hu => Nat.le_trans (hb1 u hu) (Nat.le_trans (bulk_part (by simp)) hbk)
  clear hA0 hval0
  refine (lexes9_any wordC x0 q1' c1 l1 W (by have := g0; rw [size_toList] at this; exact this) hc1 hl1 hu1 hL1 hT).mono fun e W' ⟨he, hb⟩ => ?_
  subst he
  exact ⟨_, rfl, _, _, _, [], _, [], hW', trodAll_mk1 (shut_bool Tryd.underlying4 _), (trodAll_cons_mk (shut_string Tryd.underlying9 w0) (trodAll_cons_mk (Below.trod laidOutT (by kernel_rfl) (of_decide_eq_true (by kernel_rfl)) h1 hb (fun x hx => hlt x (by simp [hx]))) trodAll_mk0)), rfl, hb.frame _, fun h => by cases h⟩
theorem row_holds : Rows.WordLexesUptoSaid :=
  OpenClaim.holds_of_cond 3 Tryd.f3 rfl rfl rfl rfl rfl rfl rfl ⟨rfl, rfl, rfl, rfl, rfl⟩ rfl rfl rfl rfl rfl (by kernel_rfl) Tryd.func3 (by kernel_rfl)
    (of_decide_eq_true (by kernel_rfl)) (by unfold Func.isWrapper; first | (rw [if_pos (by decide +kernel)]; kernel_rfl) | (rw [if_neg (by decide +kernel)]; exact ⟨rfl, rfl⟩))
    (fun os started H enc _ F => by rw [OpenClaim.pre_eq_preRow]; exact lifted os started H enc F)
theorem proved : Rows.WordLexesUptoCardSaid :=
  Claim7.holds_tied_plain_at .later [] Rows.wordLexesUptoCard.laidKinds true Rows.wordLexesUptoCard.stood.harness false row_holds (fun _ h => by cases h) (by kernel_rfl) (fun _ h => by cases h) wordLexesUpto_row_tie rfl ⟨rfl, rfl⟩ (by kernel_rfl) rfl
    (fun f fn hf hfn => by
      obtain rfl : f = 3 := Option.some.inj ((show Tryd.prog.funcNamed "debenture/debenturelaw09.WordLexes" = some 3 by kernel_rfl).symm.trans hf) |>.symm
      obtain rfl : fn = Tryd.f3 := (Option.some.inj (Tryd.func3.symm.trans hfn)).symm
      exact ⟨by kernel_rfl, fun j t ht => by
        rw [Tryd.params3] at ht
        have hm : t ∈ [9, 22] := by simpa using Array.mem_of_getElem? ht
        have hall : ([9, 22].all fun u => !Tryd.prog.wantsStandIn u) = true := by kernel_rfl
        exact (show Tryd.prog.wantsStandIn t = false by simpa using List.all_eq_true.1 hall t hm)⟩)
    (by kernel_rfl)
#print axioms proved
end Go.Proofs.YtcckifhloabpkaaDoor.wordLexes
