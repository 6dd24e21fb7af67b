/- Operations of a drawn region, taken in an order that is told by a list. -/
import Derived.Deep.RegionHeld3
import Derived.OrdersHeld
namespace Go.Proofs.YtmllklfjngapiaaDoor
def Sch (_l : List Nat) (p : Prop) : Prop := p
theorem sch_in (l : List Nat) {p : Prop} (h : Sch l p) : p := h
theorem sch_out {p : Prop} (h : p) : Sch [] p := h
section
variable {P : Program} {md : Region.Mode} {ops : Array Oper} {Q : Exit → Act → World → Prop} {S : World → Prop} {i : Nat} {r : List Nat} {oi : Oper} {v : Value} {fuel : Nat} {listed : Array Bool} {a : Act} {w : World}
theorem sch_take (hi : ops[i]? = some oi) (hs : (Region.noSelect ops && (Region.free md ops listed i && (Region.ready md ops listed).contains i)) = true)
    (hQ : ∀ c a w, Q (.panic c) (a.put oi.dst v) w → Q (.panic c) a w) (hy : YieldsIf P ops S oi v a) (hS : S w)
    (h : Sch r (wpAnyH P md ops Q S fuel (listed.setIfInBounds i true) (a.put oi.dst v) w)) : Sch (i :: r) (wpAnyH P md ops Q S (fuel + 1) listed a w) := by
  simp only [Bool.and_eq_true] at hs
  exact wpAnyH_take hi hs.1 hs.2.1 hs.2.2 hQ hy hS h
theorem sch_yes (hi : ops[i]? = some oi) (hs : (Region.noSelect ops && (Region.free md ops listed i && (Region.ready md ops listed).contains i)) = true)
    (hw : Region.wanted oi (yielded ops a.tmps) = true) (hy : ∀ w, S w → (execOp a.eval oi).run P w = .ok (.value v) w) (hS : S w)
    (h : Sch r (wpAnyH P md ops (NoPanic Q) S fuel (listed.setIfInBounds i true) (a.put oi.dst v) w)) : Sch (i :: r) (wpAnyH P md ops (NoPanic Q) S (fuel + 1) listed a w) :=
  sch_take hi hs (fun _ _ _ h => h) (.inl ⟨hw, hy⟩) hS h
theorem sch_no (hi : ops[i]? = some oi) (hs : (Region.noSelect ops && (Region.free md ops listed i && (Region.ready md ops listed).contains i)) = true)
    (hw : Region.wanted oi (yielded ops a.tmps) = false) (hS : S w)
    (h : Sch r (wpAnyH P md ops (NoPanic Q) S fuel (listed.setIfInBounds i true) (a.put oi.dst undef) w)) : Sch (i :: r) (wpAnyH P md ops (NoPanic Q) S (fuel + 1) listed a w) :=
  sch_take hi hs (fun _ _ _ h => h) (.inr ⟨hw, rfl⟩) hS h
end
end Go.Proofs.YtmllklfjngapiaaDoor
