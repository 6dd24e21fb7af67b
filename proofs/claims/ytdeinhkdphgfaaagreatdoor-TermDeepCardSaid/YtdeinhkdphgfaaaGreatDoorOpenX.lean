/- The world at a law's start: the row's list and the world's shape give what the program's terms want. -/
import Derived.Lib.LaidTab
import Derived.Test.YtdeinhkdphgfaaaGreatDoorOpenDM
import Derived.Test.YtdeinhkdphgfaaaGreatDoorAllTmA
namespace Go.Proofs.YtdeinhkdphgfaaaGreatDoor
open Go.ChangeShapes Go.WideShapes Go.RowKit Go.Joins
set_option maxRecDepth 100000
section
variable {H : Type} {enc : TypeId × Value → H}
theorem lift_both {a : Assume} {C : Checked} {os : Os} {f : FuncId} {fn : Func} {s : ChangeSpec} {conds : List PathCond} {apart fresh handsOn again : Bool} {X : World → Array Value → Prop}
  (hX : ∀ (w w' : World) (args : Array Value), w.heap = w'.heap → X w args → X w' args)
  (own : ownKnob C.prog.godebug = none) (started : os.Started) (noInit : C.prog.inits.idxOf? f = none) (hfn : C.prog.funcs[f]? = some fn)
  (witness : ∃ (w : World) (tape : Tape) (i : Input), w.os = os ∧ (w.forCall tape i).Shaped C.prog ∧ i.vars = [] ∧ Input.okWide C.prog (w.forCall tape i) .any w.heap.size f i ∧
   ((s.pre enc C.prog fn conds apart (w.forCall tape i).memory i.args ∧ X (w.forCall tape i).memory i.args) ∧ sizedMet enc C.prog fn (OpenSpec.ofChange s) apart (w.forCall tape i).memory i.args) ∧ a.holds C.prog (lone (Frame.enter C.prog f i.args .normal) [] (w.forCall tape i)))
  (contract : ∀ (W : World) (base : Nat) (args : Array Value) (ds gs : List (DataW H)) (before : List MemPlace),
   (∀ (j : Nat) t v, fn.params[j]? = some t → args[j]? = some v → Value.okWide C.prog W .any base t v) →
   DataW.Whole enc C.prog fn.params.toList s.vars apart W args.toList ds gs before →
   (DataW.weightsEach C.prog (fn.params.toList ++ s.plain.varTypes C.prog) (ds ++ gs)).all (· ≤ reachBytes) = true → X W args → W.ShapedOpen C.prog →
   Calls C.prog f args W fun e W' => ∃ v, e = .returned v ∧ s.post enc C.prog fn apart fresh handsOn again W args v W') :
  ReturnsInHanded a C os f .any (fun w args => (s.pre enc C.prog fn conds apart w args ∧ X w args) ∧ sizedMet enc C.prog fn (OpenSpec.ofChange s) apart w args) (s.post enc C.prog fn apart fresh handsOn again) := by
 refine returnsInHanded_of_calls own started noInit witness ?_
 intro w tape i _ hS _ hok hpre _
 obtain ⟨_, _, _, fn', hfn', _, _, _, _, hval⟩ := hok
 obtain rfl : fn' = fn := Option.some.inj (hfn'.symm.trans hfn)
 obtain ⟨⟨⟨ds, gs, before, hw, _⟩, hx⟩, hz⟩ := hpre
 refine (contract (w.forCall tape i) w.heap.size i.args ds gs before hval (DataW.Whole.of_heap (w' := w.forCall tape i) (by rfl) hw) (hz.weights hw) (hX _ _ _ (by rfl) hx) hS).mono fun e W' ⟨v, he, hp⟩ => ?_
 subst he
 exact ChangeSpec.post_blind hp
end
theorem gAr : Tryz.prog.globalNamed "debenture/term.arities" = some 0 := by kernel_rfl
theorem gArType : (Tryz.prog.globals[0]?).map (·.type) = some 67 := by kernel_rfl
theorem cellsAr : Tryz.prog.cellsOf 67 = 13 := by kernel_rfl
theorem gWd : Tryz.prog.globalNamed "debenture/term.words" = some 1 := by kernel_rfl
theorem gWdType : (Tryz.prog.globals[1]?).map (·.type) = some 76 := by kernel_rfl
theorem cellsWd : Tryz.prog.cellsOf 76 = 13 := by kernel_rfl
theorem str_cell {W : World} {fuel : Nat} {a : Value} {l : List UInt8} {x : DataW Unit × List MemPlace} (h : DataW.trod (fun _ => ()) Tryz.prog W 0 (fun _ => true) false fuel 9 [a] = some x) (hx : x.1 = .lit (.string l)) : a = .string ⟨l.toArray⟩ := by
 obtain ⟨s, e0, rfl, _⟩ := DataW.trod_string Tryz.underlying9 h
 have f0 : [a] = [Value.string s] := e0
 simp only [DataW.lit.injEq, Lit.string.injEq] at hx
 rw [List.cons.inj f0 |>.1, ← hx]
theorem arities_of {r : List (String × DataW Unit)} {W : World} (hL : laidMet Tryz.prog (("debenture/term.arities", Rows.laid_debenture_term_arities) :: r) W) : ∀ (k : Nat) (x : Int), arL[k]? = some x → W.cell? ⟨0, k, none⟩ = some (.int .i64 x) := by
 have h : Lib.TabIs Tryz.prog W "debenture/term.arities" .i64 arL := Lib.tabIs_of_head (rest := r) gAr gArType Tryz.underlying67 Tryz.underlying3 cellsIntD cellsAr hL
 intro k x hx
 have hk : k < arL.length := (List.getElem?_eq_some_iff.1 hx).1
 have e := h.cell gAr k hk
 rw [List.getD_eq_getElem?_getD, hx] at e
 exact e
theorem words_of {r : List (String × DataW Unit)} {W : World} (hL : laidMet Tryz.prog (("debenture/term.words", Rows.laid_debenture_term_words) :: r) W) : ∀ (k : Nat) (x : List UInt8), wdL[k]? = some x → W.cell? ⟨1, k, none⟩ = some (.string ⟨x.toArray⟩) := by
 obtain ⟨_, ⟨g, t, cs, fuel, p, _, hg, ht, hv, hd, _, _⟩, _⟩ := hL
 obtain rfl := Option.some.inj (gWd.symm.trans hg)
 obtain rfl := Option.some.inj (gWdType.symm.trans ht)
 obtain ⟨xs, m, _, hx, hl, hxl, hi⟩ := DataW.trod_array Tryz.underlying76 hd
 rw [cellsWd] at hl
 have h0 := hi 0 (by decide)
 have h1 := hi 1 (by decide)
 have h2 := hi 2 (by decide)
 have h3 := hi 3 (by decide)
 have h4 := hi 4 (by decide)
 have h5 := hi 5 (by decide)
 have h6 := hi 6 (by decide)
 have h7 := hi 7 (by decide)
 have h8 := hi 8 (by decide)
 have h9 := hi 9 (by decide)
 have h10 := hi 10 (by decide)
 have h11 := hi 11 (by decide)
 have h12 := hi 12 (by decide)
 rw [show Tryz.prog.cellsOf _ = 1 from cellsStr] at h0 h1 h2 h3 h4 h5 h6 h7 h8 h9 h10 h11 h12
 have hc : ∀ j, W.cell? ⟨1, j, none⟩ = cs.toList[j]? := fun j => by
  rw [World.var?_cell gWd hv j, Array.getElem?_toList]
 generalize cs.toList = L at *
 match L, hl with
 | [a0, a1, a2, a3, a4, a5, a6, a7, a8, a9, a10, a11, a12], _ =>
  match xs, hxl with
  | [y0, y1, y2, y3, y4, y5, y6, y7, y8, y9, y10, y11, y12], _ =>
   have ha := (Prod.mk.inj hx).1
   have ha : Rows.laid_debenture_term_words = DataW.agg [y0.1, y1.1, y2.1, y3.1, y4.1, y5.1, y6.1, y7.1, y8.1, y9.1, y10.1, y11.1, y12.1] := ha
   unfold Rows.laid_debenture_term_words at ha
   simp only [DataW.agg.injEq, List.cons.injEq, and_true] at ha
   obtain ⟨k0, k1, k2, k3, k4, k5, k6, k7, k8, k9, k10, k11, k12⟩ := ha
   have u0 := str_cell h0 k0.symm
   have u1 := str_cell h1 k1.symm
   have u2 := str_cell h2 k2.symm
   have u3 := str_cell h3 k3.symm
   have u4 := str_cell h4 k4.symm
   have u5 := str_cell h5 k5.symm
   have u6 := str_cell h6 k6.symm
   have u7 := str_cell h7 k7.symm
   have u8 := str_cell h8 k8.symm
   have u9 := str_cell h9 k9.symm
   have u10 := str_cell h10 k10.symm
   have u11 := str_cell h11 k11.symm
   have u12 := str_cell h12 k12.symm
   intro k x hx2
   rw [hc]
   match k, hx2 with
   | 0, hx2 => rw [← Option.some.inj hx2]; exact congrArg some u0
   | 1, hx2 => rw [← Option.some.inj hx2]; exact congrArg some u1
   | 2, hx2 => rw [← Option.some.inj hx2]; exact congrArg some u2
   | 3, hx2 => rw [← Option.some.inj hx2]; exact congrArg some u3
   | 4, hx2 => rw [← Option.some.inj hx2]; exact congrArg some u4
   | 5, hx2 => rw [← Option.some.inj hx2]; exact congrArg some u5
   | 6, hx2 => rw [← Option.some.inj hx2]; exact congrArg some u6
   | 7, hx2 => rw [← Option.some.inj hx2]; exact congrArg some u7
   | 8, hx2 => rw [← Option.some.inj hx2]; exact congrArg some u8
   | 9, hx2 => rw [← Option.some.inj hx2]; exact congrArg some u9
   | 10, hx2 => rw [← Option.some.inj hx2]; exact congrArg some u10
   | 11, hx2 => rw [← Option.some.inj hx2]; exact congrArg some u11
   | 12, hx2 => rw [← Option.some.inj hx2]; exact congrArg some u12
theorem goodX_of {x0 x1 x3 : String × DataW Unit} {r : List (String × DataW Unit)} {W : World} (hL : laidMet Tryz.prog (x0 :: x1 :: ("internal/strconv.uint64pow10", Rows.laid_internal_strconv_uint64pow10) :: x3 :: ("debenture/decimal.powers", Rows.laid_debenture_decimal_powers) :: ("debenture/term.arities", Rows.laid_debenture_term_arities) :: ("debenture/term.words", Rows.laid_debenture_term_words) :: r) W) (hS : W.ShapedOpen Tryz.prog) : GoodX W :=
 ⟨goodT_of hL, goodD_of hL.tail.tail.tail hS, arities_of hL.tail.tail.tail.tail.tail, words_of hL.tail.tail.tail.tail.tail.tail⟩
end Go.Proofs.YtdeinhkdphgfaaaGreatDoor
