/- The document's answers for fractions: a whole number as a fraction; rows of one, and of two; its calls said of rational numbers. -/
import Derived.Test.YtnahepfnejdcgaaDoorAllApiQ
namespace Go.Proofs.YtnahepfnejdcgaaDoor
open Go.RowKit

set_option maxRecDepth 100000 in
set_option maxHeartbeats 1000000 in
theorem rqof_any (n : Int) (w : World) (h0 : -9223372036854775808 ≤ n) (h1 : n ≤ 9223372036854775807) :
    Calls Tryd.prog 8 #[.int .i64 n] w (GiveR w (wd n, [49])) := by
  have ca := fun w => rwof_any n w h0 h1
  generalize wd n = s at *
  clear h0 h1
  have CA := Lib.hid ca
  clear ca
  go_enter Tryd.func8, Tryd.ntmps8
  go_wp2_with fail
  obtain ⟨W, hW, BW, sW, r0, r1, r2, r3⟩ := box0z w (.string ⟨#[]⟩) (.string ⟨#[]⟩) 24
  have hB := Lib.hid (Nat.le_refl W.heap.size)
  rw [hW]; clear hW
  have b0 := Below.refl W.heap.size W
  refine (CA.out _).mono ?_
  rintro e w1 ⟨rfl, b⟩
  have b1 := Below.more b0 b
  clear b
  go_wp2_with fail
  refine bodyPost_ret (v := .agg #[.string ⟨s.toArray⟩, .string ⟨#[49]⟩]) (by simp [results, Tryd.results8, go_sem, *]) rfl ⟨rfl, ?_⟩
  exact put2 (Below.more BW b1) (Nat.le_refl _) _ _

section
variable {x y z : Rat} {j k : Nat}
end
end Go.Proofs.YtnahepfnejdcgaaDoor
