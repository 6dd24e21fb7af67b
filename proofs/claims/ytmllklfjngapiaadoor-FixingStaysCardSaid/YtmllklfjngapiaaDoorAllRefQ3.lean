/- The document's answers for fractions: what is split, one fraction of two ints; whether fractions are short, and good. -/
import Derived.Test.YtmllklfjngapiaaDoorAllRefQ2
namespace Go.Proofs.YtmllklfjngapiaaDoor
open Go.RowKit

theorem len_int {a : Int} (h0 : -9223372036854775808 ≤ a) (h1 : a ≤ 9223372036854775807) : (wd a).length ≤ 20 :=
  Nat.le_trans (wd_length a) (Nat.succ_le_succ (dig_length (k := 19) (by decide) (Nat.lt_of_le_of_lt (show a.natAbs ≤ 9223372036854775808 by omega) (by decide))))
theorem split_make {p : List UInt8 × List UInt8} (h : isR p = true) : makeR (divW p.1 p.2).2.1 p.2 = ((splitR p).2, true) ∧ (divW p.1 p.2).1 = (splitR p).1 := by
  obtain ⟨e1, e2⟩ := splitR_yes h
  have hs : splitR p = (wd (valR p).floor, rd (valR p - ((valR p).floor : Int))) := by unfold splitR; rw [h]; rfl
  refine ⟨?_, by rw [e1]⟩
  rw [e1, ← e2]
  have k := isR_rd (valR p - ((valR p).floor : Int))
  have e3 : (splitR p).2 = rd (valR p - ((valR p).floor : Int)) := by rw [hs]
  show makeR (splitR p).2.1 (splitR p).2.2 = _
  rw [e3]
  generalize valR p - ((valR p).floor : Int) = x at *
  show makeR (wd x.num) (dig x.den) = _
  rw [← wd_nat, makeR_ww (by have := x.den_nz; omega)]
  rw [Rat.num_divInt_den]
end Go.Proofs.YtmllklfjngapiaaDoor
