/- make(limbs, n), inside a fence. -/
import Derived.OwnWalkIn
import Derived.Test.YtcekdidefomkfaaDoorSum
namespace Go.Proofs.YtcekdidefomkfaaDoor
open Go.RowKit
theorem wpListIn_make_limbs {F : Fence} {n : Nat} (w : World) {ops : Array Oper} {rest : List Oper} {o : Oper} {a : Act} {Q : Exit → Act → World → Prop}
    (hg : o.guard = none) (l c : Operand) (hop : o.op = Op.makeSlice 44 l c) (kl kc : IntKind) (L C : Int) (m : Nat) (hl : a.eval l = .int kl L) (hc : a.eval c = .int kc C) (hL : L = (m : Int)) (hC : C = (m : Int))
    (h : m ≤ 4294967296) (hK : ∀ w', Made w w' m → wpListIn F n Tryd.prog ops Q rest (a.put o.dst (.slice (some ⟨w.heap.size, 0, none⟩) m m)) w') :
    wpListIn F n Tryd.prog ops Q (o :: rest) a w := by
  refine wpListIn_plain hg fun K hK' => ?_
  have hrun := run_make_row' (P := Tryd.prog) 44 62 (.int .u64 0) 8 Tryd.underlying44 info_u64 rfl kl kc m (by omega) (by omega) w
  subst hL
  subst hC
  unfold Oper.wpIn
  refine ⟨?_, ?_⟩
  · simp [Oper.about, hop]
  · rw [Oper.semAt_plain F _ _ (by rw [hop]; intro c hc'; cases hc')]
    simp [execOp, hop, hl, hc, hrun, Result.andThen]
    exact hK' _ _ (hK _ (made w m 62))
end Go.Proofs.YtcekdidefomkfaaDoor
