/- The document's answers for fractions: a whole number as a fraction; rows of one, and of two; its calls said of rational numbers. -/
import Derived.Test.YtagfndkfjbbpjaaGreatDoorAllApiQ
namespace Go.Proofs.YtagfndkfjbbpjaaGreatDoor
open Go.RowKit
set_option maxRecDepth 100000 in
set_option maxHeartbeats 1000000 in
theorem rqof_any (n : Int) (w : World) (h0 : -9223372036854775808 ≤ n) (h1 : n ≤ 9223372036854775807) :
  Calls Tryz.prog 28 #[.int .i64 n] w (GiveR w (wd n, [49])) := by
 have ca := fun w => rwof_any n w h0 h1
 generalize wd n = s at *
 clear h0 h1
 have CA := Lib.hid ca
 clear ca
 go_enter Tryz.func28, Tryz.ntmps28
 go_wp2_with fail
 obtain ⟨W, hW, BW, sW, r0, r1, r2, r3⟩ := box0z w (.string ⟨#[]⟩) (.string ⟨#[]⟩) 35
 have hB := Lib.hid (Nat.le_refl W.heap.size)
 rw [hW]; clear hW
 have b0 := Below.refl W.heap.size W
 refine (CA.out _).mono ?_
 rintro e w1 ⟨rfl, b⟩
 have b1 := Below.more b0 b
 clear b
 go_wp2_with fail
 refine bodyPost_ret (v := .agg #[.string ⟨s.toArray⟩, .string ⟨#[49]⟩]) (by simp [results, Tryz.results28, go_sem, *]) rfl ⟨rfl, ?_⟩
 exact put2 (Below.more BW b1) (Nat.le_refl _) _ _
theorem short1q (w : World) (a : ByteArray × ByteArray) : Calls Tryz.prog 31 #[.slice (some ⟨w.heap.size, 0, none⟩) 1 1] (w.alloc (.cells #[.string a.1, .string a.2] 35)) fun e w' => e = .returned (.bool (shQ a)) ∧ Below w.heap.size w w' :=
 (qshort_any _ _ 0 1 1 _ (by decide) (Nat.le_refl _) (rats1 w a _)).mono fun _ _ ⟨he, hb⟩ => ⟨by rw [he, allQ_one], hb ▸ Below.step _ (Below.refl _ _)⟩
section
variable {x y z : Rat} {j k : Nat}
end
end Go.Proofs.YtagfndkfjbbpjaaGreatDoor
