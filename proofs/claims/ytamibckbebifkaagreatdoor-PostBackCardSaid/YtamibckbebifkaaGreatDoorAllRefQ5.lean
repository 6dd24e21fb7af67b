/- The document's answers for fractions: a whole number as a fraction; rows of one, and of two; its calls said of rational numbers. -/
import Derived.Test.YtamibckbebifkaaGreatDoorAllApiQ
namespace Go.Proofs.YtamibckbebifkaaGreatDoor
open Go.RowKit

set_option maxRecDepth 100000 in
set_option maxHeartbeats 1000000 in
theorem rqof_any (n : Int) (w : World) (h0 : -9223372036854775808 ≤ n) (h1 : n ≤ 9223372036854775807) :
    Calls Tryz.prog 39 #[.int .i64 n] w (GiveR w (wd n, [49])) := by
  have ca := fun w => rwof_any n w h0 h1
  generalize wd n = s at *
  clear h0 h1
  have CA := Lib.hid ca
  clear ca
  go_enter Tryz.func39, Tryz.ntmps39
  go_wp2_with fail
  obtain ⟨W, hW, BW, sW, r0, r1, r2, r3⟩ := box0z w (.string ⟨#[]⟩) (.string ⟨#[]⟩) 31
  have hB := Lib.hid (Nat.le_refl W.heap.size)
  rw [hW]; clear hW
  have b0 := Below.refl W.heap.size W
  refine (CA.out _).mono ?_
  rintro e w1 ⟨rfl, b⟩
  have b1 := Below.more b0 b
  clear b
  go_wp2_with fail
  refine bodyPost_ret (v := .agg #[.string ⟨s.toArray⟩, .string ⟨#[49]⟩]) (by simp [results, Tryz.results39, go_sem, *]) rfl ⟨rfl, ?_⟩
  exact put2 (Below.more BW b1) (Nat.le_refl _) _ _
theorem short1q (w : World) (a : ByteArray × ByteArray) : Calls Tryz.prog 24 #[.slice (some ⟨w.heap.size, 0, none⟩) 1 1] (w.alloc (.cells #[.string a.1, .string a.2] 31)) fun e w' => e = .returned (.bool (shQ a)) ∧ Below w.heap.size w w' :=
  (qshort_any _ _ 0 1 1 _ (by decide) (Nat.le_refl _) (rats1 w a _)).mono fun _ _ ⟨he, hb⟩ => ⟨by rw [he, allQ_one], hb ▸ Below.step _ (Below.refl _ _)⟩

section
variable {x y z : Rat} {j k : Nat}
theorem dAdd (hx : Lq x j) (hy : Lq y k) (h : x + y = z) (w : World) : Calls Tryz.prog 18 #[.agg #[.string ⟨(rdN x).toArray⟩, .string ⟨(rdD x).toArray⟩], .agg #[.string ⟨(rdN y).toArray⟩, .string ⟨(rdD y).toArray⟩]] w (GiveR w (rdN z, rdD z)) := by
  have c := rqadd_any ⟨(rdN x).toArray⟩ ⟨(rdD x).toArray⟩ ⟨(rdN y).toArray⟩ ⟨(rdD y).toArray⟩ w (by have := hx.s1; omega) (by have := hx.s2; omega) (by have := hy.s1; omega) (by have := hy.s2; omega)
  rw [show addR ((⟨(rdN x).toArray⟩ : ByteArray).data.toList, (⟨(rdD x).toArray⟩ : ByteArray).data.toList) ((⟨(rdN y).toArray⟩ : ByteArray).data.toList, (⟨(rdD y).toArray⟩ : ByteArray).data.toList) = rd z from (by show addR (rd x) (rd y) = _; unfold addR; rw [isR_rd, isR_rd, valR_rd, valR_rd, h]; rfl)] at c
  exact c
theorem dSub (hx : Lq x j) (hy : Lq y k) (h : x - y = z) (w : World) : Calls Tryz.prog 57 #[.agg #[.string ⟨(rdN x).toArray⟩, .string ⟨(rdD x).toArray⟩], .agg #[.string ⟨(rdN y).toArray⟩, .string ⟨(rdD y).toArray⟩]] w (GiveR w (rdN z, rdD z)) := by
  have c := rqsub_any ⟨(rdN x).toArray⟩ ⟨(rdD x).toArray⟩ ⟨(rdN y).toArray⟩ ⟨(rdD y).toArray⟩ w (by have := hx.s1; omega) (by have := hx.s2; omega) (by have := hy.s1; omega) (by have := hy.s2; omega)
  rw [show subR ((⟨(rdN x).toArray⟩ : ByteArray).data.toList, (⟨(rdD x).toArray⟩ : ByteArray).data.toList) ((⟨(rdN y).toArray⟩ : ByteArray).data.toList, (⟨(rdD y).toArray⟩ : ByteArray).data.toList) = rd z from (by show subR (rd x) (rd y) = _; unfold subR; rw [isR_rd, isR_rd, valR_rd, valR_rd, h]; rfl)] at c
  exact c
theorem dCmp (hx : Lq x j) (hy : Lq y k) {s : Int} (h : sgnQ (x - y) = s) (w : World) : Calls Tryz.prog 30 #[.agg #[.string ⟨(rdN x).toArray⟩, .string ⟨(rdD x).toArray⟩], .agg #[.string ⟨(rdN y).toArray⟩, .string ⟨(rdD y).toArray⟩]] w (GiveI w s) := by
  have c := rqcmp_any ⟨(rdN x).toArray⟩ ⟨(rdD x).toArray⟩ ⟨(rdN y).toArray⟩ ⟨(rdD y).toArray⟩ w (by have := hx.s1; omega) (by have := hx.s2; omega) (by have := hy.s1; omega) (by have := hy.s2; omega)
  rw [show cmpR ((⟨(rdN x).toArray⟩ : ByteArray).data.toList, (⟨(rdD x).toArray⟩ : ByteArray).data.toList) ((⟨(rdN y).toArray⟩ : ByteArray).data.toList, (⟨(rdD y).toArray⟩ : ByteArray).data.toList) = s from (by show cmpR (rd x) (rd y) = _; unfold cmpR; rw [isR_rd, isR_rd, valR_rd, valR_rd, h]; rfl)] at c
  exact c
theorem dSign (hx : Lq x j) {s : Int} (h : sgnQ x = s) (w : World) : Calls Tryz.prog 20 #[.agg #[.string ⟨(rdN x).toArray⟩, .string ⟨(rdD x).toArray⟩]] w (GiveI w s) := by
  have c := rqsign_any ⟨(rdN x).toArray⟩ ⟨(rdD x).toArray⟩ w (by have := hx.s1; omega) (by have := hx.s2; omega)
  rw [show sgnR ((⟨(rdN x).toArray⟩ : ByteArray).data.toList, (⟨(rdD x).toArray⟩ : ByteArray).data.toList) = s from (by show sgnR (rd x) = _; unfold sgnR; rw [isR_rd, valR_rd, h]; rfl)] at c
  exact c
theorem dNeg (hx : Lq x j) (h : -x = z) (w : World) : Calls Tryz.prog 21 #[.agg #[.string ⟨(rdN x).toArray⟩, .string ⟨(rdD x).toArray⟩]] w (GiveR w (rdN z, rdD z)) := by
  have c := rqneg_any ⟨(rdN x).toArray⟩ ⟨(rdD x).toArray⟩ w (by have := hx.s1; omega) (by have := hx.s2; omega)
  rw [show negR ((⟨(rdN x).toArray⟩ : ByteArray).data.toList, (⟨(rdD x).toArray⟩ : ByteArray).data.toList) = rd z from (by show negR (rd x) = _; unfold negR; rw [isR_rd, valR_rd, h]; rfl)] at c
  exact c
theorem dMay (hx : Lq x j) (w : World) : Calls Tryz.prog 40 #[.agg #[.string ⟨(rdN x).toArray⟩, .string ⟨(rdD x).toArray⟩]] w (GiveB w true) := by
  have c := rqmay_any ⟨(rdN x).toArray⟩ ⟨(rdD x).toArray⟩ w (by have := hx.s1; omega) (by have := hx.s2; omega)
  rw [show isR ((⟨(rdN x).toArray⟩ : ByteArray).data.toList, (⟨(rdD x).toArray⟩ : ByteArray).data.toList) = true from isR_rd x] at c
  exact c
end
end Go.Proofs.YtamibckbebifkaaGreatDoor
