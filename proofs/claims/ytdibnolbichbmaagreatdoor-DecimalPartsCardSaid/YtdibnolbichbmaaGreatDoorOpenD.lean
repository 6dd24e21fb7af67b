/- The world at a law's start: the row's list and the world's shape give what the program's decimals want. -/
import Derived.Handed
import Derived.Lay
import Derived.Stop.LaidErr
import Derived.Shelf.Vars
import Derived.Test.YtdibnolbichbmaaGreatDoorOpenQ
import Derived.Test.YtdibnolbichbmaaGreatDoorAllDec
namespace Go.Proofs.YtdibnolbichbmaaGreatDoor
open Go.ChangeShapes Go.WideShapes Go.RowKit Go.Joins
set_option maxRecDepth 100000
section
variable {H : Type} {enc : TypeId × Value → H}
/-- A law's walk, lifted with the world's shape at hand. -/
theorem lift_shaped {a : Assume} {C : Checked} {os : Os} {f : FuncId} {fn : Func} {s : ChangeSpec} {conds : List PathCond} {apart fresh handsOn again : Bool} {X : World → Array Value → Prop}
    (hX : ∀ (w w' : World) (args : Array Value), w.heap = w'.heap → X w args → X w' args)
    (own : ownKnob C.prog.godebug = none) (started : os.Started) (noInit : C.prog.inits.idxOf? f = none) (hfn : C.prog.funcs[f]? = some fn)
    (witness : ∃ (w : World) (tape : Tape) (i : Input), w.os = os ∧ (w.forCall tape i).Shaped C.prog ∧ i.vars = [] ∧ Input.okWide C.prog (w.forCall tape i) .any w.heap.size f i ∧
      ((s.pre enc C.prog fn conds apart (w.forCall tape i).memory i.args ∧ X (w.forCall tape i).memory i.args) ∧ sizedMet enc C.prog fn (OpenSpec.ofChange s) apart (w.forCall tape i).memory i.args) ∧ a.holds C.prog (lone (Frame.enter C.prog f i.args .normal) [] (w.forCall tape i)))
    (contract : ∀ (W : World) (base : Nat) (args : Array Value) (ds gs : List (DataW H)) (before : List MemPlace),
      (∀ (j : Nat) t v, fn.params[j]? = some t → args[j]? = some v → Value.okWide C.prog W .any base t v) →
      DataW.Whole enc C.prog fn.params.toList s.vars apart W args.toList ds gs before → X W args → W.ShapedOpen C.prog →
      Calls C.prog f args W fun e W' => ∃ v, e = .returned v ∧ s.post enc C.prog fn apart fresh handsOn again W args v W') :
    ReturnsInHanded a C os f .any (fun w args => (s.pre enc C.prog fn conds apart w args ∧ X w args) ∧ sizedMet enc C.prog fn (OpenSpec.ofChange s) apart w args) (s.post enc C.prog fn apart fresh handsOn again) := by
  refine returnsInHanded_of_calls own started noInit witness ?_
  intro w tape i _ hS _ hok hpre _
  obtain ⟨_, _, _, fn', hfn', _, _, _, _, hval⟩ := hok
  obtain rfl : fn' = fn := Option.some.inj (hfn'.symm.trans hfn)
  obtain ⟨⟨⟨ds, gs, before, hw, _⟩, hx⟩, _⟩ := hpre
  refine (contract (w.forCall tape i) w.heap.size i.args ds gs before hval (DataW.Whole.of_heap (w' := w.forCall tape i) (by rfl) hw) (hX _ _ _ (by rfl) hx) hS).mono fun e W' ⟨v, he, hp⟩ => ?_
  subst he
  exact ChangeSpec.post_blind hp
end
theorem gPow : Tryz.prog.globalNamed "debenture/decimal.powers" = some 0 := by kernel_rfl
theorem gPowType : (Tryz.prog.globals[0]?).map (·.type) = some 67 := by kernel_rfl
theorem cellsPow : Tryz.prog.cellsOf 67 = 8 := by kernel_rfl
theorem cellsPair : Tryz.prog.cellsOf 66 = 2 := by kernel_rfl
theorem cellsInt : Tryz.prog.cellsOf 3 = 1 := by kernel_rfl
/-- Two cells that read as a text and a number. -/
theorem pair_cells {W : World} {fuel : Nat} {a b : Value} {l : List UInt8} {z : Int} {x : DataW Unit × List MemPlace} (h : DataW.trod (fun _ => ()) Tryz.prog W 0 (fun _ => true) false fuel 66 [a, b] = some x) (hx : x.1 = .agg [.lit (.string l), .lit (.int .i64 z)]) :
    a = .string ⟨l.toArray⟩ ∧ b = .int .i64 z := by
  obtain ⟨y0, y1, n, rfl, _, h0, h1⟩ := trod_struct2 Tryz.underlying66 h
  rw [show Tryz.prog.cellsOf _ = 1 from cellsStr] at h0
  rw [show Tryz.prog.cellsOf _ = 1 from cellsInt] at h1
  obtain ⟨s, e0, rfl, _⟩ := DataW.trod_string Tryz.underlying9 h0
  obtain ⟨m, e1, rfl, _⟩ := DataW.trod_int Tryz.underlying3 h1
  have f0 : [a] = [Value.string s] := e0
  have f1 : [b] = [Value.int .i64 m] := e1
  simp only [DataW.agg.injEq, List.cons.injEq, DataW.lit.injEq, Lit.string.injEq, Lit.int.injEq, and_true, true_and] at hx
  obtain ⟨hl, hz⟩ := hx
  refine ⟨?_, ?_⟩
  · rw [List.cons.inj f0 |>.1, ← hl]
  · rw [List.cons.inj f1 |>.1, hz]
theorem goodD_of {x0 : String × DataW Unit} {r : List (String × DataW Unit)} {W : World} (hL : laidMet Tryz.prog (x0 :: ("debenture/decimal.powers", Rows.laid_debenture_decimal_powers) :: r) W) (hS : W.ShapedOpen Tryz.prog) : GoodD W := by
  have hM : ∃ m, W.cell? ⟨1, 0, none⟩ = some (.int .i64 m) := cell_of_shapedOpen_int (zero := #[.int .i64 0]) (t := 3) hS (of_decide_eq_true (by kernel_rfl)) (by kernel_rfl) rfl (by kernel_rfl) (by kernel_rfl) Tryz.underlying3
  obtain ⟨_, ⟨g, t, cs, fuel, p, _, hg, ht, hv, hd, _, _⟩, _⟩ := hL.tail
  obtain rfl := Option.some.inj (gPow.symm.trans hg)
  obtain rfl := Option.some.inj (gPowType.symm.trans ht)
  obtain ⟨xs, m, _, hx, hl, hxl, hi⟩ := DataW.trod_array Tryz.underlying67 hd
  rw [cellsPow] at hl
  have h0 := hi 0 (by decide)
  have h1 := hi 1 (by decide)
  have h2 := hi 2 (by decide)
  have h3 := hi 3 (by decide)
  rw [cellsPair] at h0 h1 h2 h3
  have hc : ∀ j, W.cell? ⟨0, j, none⟩ = cs.toList[j]? := fun j => by
    rw [World.var?_cell gPow hv j, Array.getElem?_toList]
  have hlt := var_lt gPow hv
  generalize cs.toList = L at *
  match L, hl with
  | [a0, b0, a1, b1, a2, b2, a3, b3], _ =>
    match xs, hxl with
    | [y0, y1, y2, y3], _ =>
      have ha := (Prod.mk.inj hx).1
      have ha : Rows.laid_debenture_decimal_powers = DataW.agg [y0.1, y1.1, y2.1, y3.1] := ha
      unfold Rows.laid_debenture_decimal_powers at ha
      simp only [DataW.agg.injEq, List.cons.injEq, and_true] at ha
      obtain ⟨k0, k1, k2, k3⟩ := ha
      obtain ⟨u0, v0⟩ := pair_cells h0 k0.symm
      obtain ⟨u1, v1⟩ := pair_cells h1 k1.symm
      obtain ⟨u2, v2⟩ := pair_cells h2 k2.symm
      obtain ⟨u3, v3⟩ := pair_cells h3 k3.symm
      refine ⟨hM, ?_, ?_, ?_, ?_, ?_, ?_, ?_, ?_, ?_, hlt⟩
      · rw [hc, u0]; rfl
      · rw [hc, v0]; rfl
      · rw [hc, u1]; rfl
      · rw [hc, v1]; rfl
      · rw [hc, u2]; rfl
      · rw [hc, v2]; rfl
      · rw [hc, u3]; rfl
      · rw [hc, v3]; rfl
      · obtain ⟨m, hm⟩ := hM
        exact World.block_lt_of_cell? W ⟨1, 0, none⟩ hm
end Go.Proofs.YtdibnolbichbmaaGreatDoor
