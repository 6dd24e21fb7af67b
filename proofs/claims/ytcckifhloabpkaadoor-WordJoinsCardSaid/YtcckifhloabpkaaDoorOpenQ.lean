/- Fractions, and rows of texts, as a law's arguments: opened to their texts, and shut. -/
import Derived.ProofKit
import Derived.OpenShut
import Derived.ShutString
import Derived.Lib.SmallJoins
import Derived.Test.YtcckifhloabpkaaDoorRows
namespace Go.Proofs.YtcckifhloabpkaaDoor
open Go.ChangeShapes Go.WideShapes Go.RowKit Go.Joins
set_option maxRecDepth 100000
section
variable {H : Type} {enc : TypeId × Value → H} {w : World} {base : Nat} {sp : Nat → Bool} {held : Bool}
theorem cellsStr : Tryd.prog.cellsOf 9 = 1 := by kernel_rfl
theorem str_lit {n : Nat} {c : Value} {y : DataW H × List MemPlace} (h : DataW.trod enc Tryd.prog w base sp held n 9 [c] = some y) :
    ∃ s : ByteArray, c = .string s ∧ y = (.lit (.string s.data.toList), []) ∧ s.size ≤ maxLen := by
  obtain ⟨s, h1, h2, h3⟩ := DataW.trod_string Tryd.underlying9 h
  exact ⟨s, by simpa using h1, h2, h3⟩
theorem lit_str (s : ByteArray) (hs : s.size ≤ maxLen) : DataW.trod enc Tryd.prog w base sp held 1 9 [.string s] = some (.lit (.string s.data.toList), []) := by
  simp [DataW.trod, Tryd.underlying9, hs]
end
end Go.Proofs.YtcckifhloabpkaaDoor
