/- The document's answers for fractions: a whole number as a fraction; rows of one, and of two; its calls said of rational numbers. -/
import Derived.Test.YtmllklfjngapiaaDoorAllApiQ
namespace Go.Proofs.YtmllklfjngapiaaDoor
open Go.RowKit

set_option maxRecDepth 100000 in
set_option maxHeartbeats 1000000 in
theorem rqof_any (n : Int) (w : World) (h0 : -9223372036854775808 ≤ n) (h1 : n ≤ 9223372036854775807) :
    Calls Tryd.prog 19 #[.int .i64 n] w (GiveR w (wd n, [49])) := by
  have ca := fun w => rwof_any n w h0 h1
  generalize wd n = s at *
  clear h0 h1
  have CA := Lib.hid ca
  clear ca
  go_enter Tryd.func19, Tryd.ntmps19
  go_wp2_with fail
  obtain ⟨W, hW, BW, sW, r0, r1, r2, r3⟩ := box0z w (.string ⟨#[]⟩) (.string ⟨#[]⟩) 24
  have hB := Lib.hid (Nat.le_refl W.heap.size)
  rw [hW]; clear hW
  have b0 := Below.refl W.heap.size W
  refine (CA.out _).mono ?_
  rintro e w1 ⟨rfl, b⟩
  have b1 := Below.more b0 b
  clear b
  go_wp2_with fail
  refine bodyPost_ret (v := .agg #[.string ⟨s.toArray⟩, .string ⟨#[49]⟩]) (by simp [results, Tryd.results19, go_sem, *]) rfl ⟨rfl, ?_⟩
  exact put2 (Below.more BW b1) (Nat.le_refl _) _ _

section
variable {x y z : Rat} {j k : Nat}
theorem dMay (hx : Lq x j) (w : World) : Calls Tryd.prog 26 #[.agg #[.string ⟨(rdN x).toArray⟩, .string ⟨(rdD x).toArray⟩]] w (GiveB w true) := by
  have c := rqmay_any ⟨(rdN x).toArray⟩ ⟨(rdD x).toArray⟩ w (by have := hx.s1; omega) (by have := hx.s2; omega)
  rw [show isR ((⟨(rdN x).toArray⟩ : ByteArray).data.toList, (⟨(rdD x).toArray⟩ : ByteArray).data.toList) = true from isR_rd x] at c
  exact c
end
end Go.Proofs.YtmllklfjngapiaaDoor
