/- The program's rounding said of rational numbers; constants. -/
import Derived.Test.YtnahepfnejdcgaaGreatDoorAllGrid
namespace Go.Proofs.YtnahepfnejdcgaaGreatDoor
open Go.RowKit

theorem gRound {x g : Rat} {j k : Nat} (hx : Lq x j) (hy : Lq g k) (hj : j ≤ 1400) (hk : k ≤ 1400) (h0 : 0 < g) (m : Nat) (hm : m ≤ 2) {z : Rat} (h : rndQ m x g = z) (w : World) (hg : GoodG w) :
    Calls Tryz.prog 11 #[.agg #[.string ⟨(rdN x).toArray⟩, .string ⟨(rdD x).toArray⟩], .agg #[.string ⟨(rdN g).toArray⟩, .string ⟨(rdD g).toArray⟩], .int .i64 (m : Int)] w (GiveR w (rdN z, rdD z)) := by
  have c := ground_any ⟨(rdN x).toArray⟩ ⟨(rdD x).toArray⟩ ⟨(rdN g).toArray⟩ ⟨(rdD g).toArray⟩ (m : Int) w (by rw [size_of]; have := hx.len1; omega) (by rw [size_of]; have := hx.len2; omega) (by rw [size_of]; have := hy.len1; omega) (by rw [size_of]; have := hy.len2; omega) hg
  have e : rndS ((⟨(rdN x).toArray⟩ : ByteArray).data.toList, (⟨(rdD x).toArray⟩ : ByteArray).data.toList) ((⟨(rdN g).toArray⟩ : ByteArray).data.toList, (⟨(rdD g).toArray⟩ : ByteArray).data.toList) (m : Int) = rd z := by
    show rndS (rd x) (rd g) (m : Int) = _
    rw [rndS_yes h0 hm, h]
  rw [e] at c
  exact c
theorem gWhole {x : Rat} {j : Nat} (hx : Lq x j) (hj : j ≤ 3900) (m : Nat) (hm : m ≤ 2) {z : Int} (h : whQ m x = z) (w : World) (hg : GoodG w) :
    Calls Tryz.prog 9 #[.agg #[.string ⟨(rdN x).toArray⟩, .string ⟨(rdD x).toArray⟩], .int .i64 (m : Int)] w (GiveS w (wd z)) := by
  have c := gwhole_any ⟨(rdN x).toArray⟩ ⟨(rdD x).toArray⟩ (m : Int) w (by rw [size_of]; have := hx.len1; omega) (by rw [size_of]; have := hx.len2; omega) hg
  have e : whS ((⟨(rdN x).toArray⟩ : ByteArray).data.toList, (⟨(rdD x).toArray⟩ : ByteArray).data.toList) (m : Int) = wd z := by
    show whS (rd x) (m : Int) = _
    rw [whS_yes (isR_rd x) hm, valR_rd, h]
  rw [e] at c
  exact c
theorem cent_rd : (([49] : List UInt8), ([49, 48, 48] : List UInt8)) = rd (Rat.divInt 1 100) := by
  have h := one_c (a := 1) (b := 100) (q := ([49], [49, 48, 48])) (by decide +kernel)
  rw [makeR_ww (by decide)] at h
  exact h.symm
theorem cent_pos : 0 < Rat.divInt 1 100 := by decide +kernel
theorem gCents {x : Rat} {j : Nat} (hx : Lq x j) (hj : j ≤ 1400) {z : Rat} (h : rndQ 2 x (Rat.divInt 1 100) = z) (w : World) (hg : GoodG w) :
    Calls Tryz.prog 13 #[.agg #[.string ⟨(rdN x).toArray⟩, .string ⟨(rdD x).toArray⟩]] w (GiveR w (rdN z, rdD z)) := by
  have c := gcents_any ⟨(rdN x).toArray⟩ ⟨(rdD x).toArray⟩ w (by rw [size_of]; have := hx.len1; omega) (by rw [size_of]; have := hx.len2; omega) hg
  have e : cenS ((⟨(rdN x).toArray⟩ : ByteArray).data.toList, (⟨(rdD x).toArray⟩ : ByteArray).data.toList) = rd z := by
    show rndS (rd x) ([49], [49, 48, 48]) ((2 : Nat) : Int) = _
    rw [cent_rd, rndS_yes cent_pos (by decide), h]
  rw [e] at c
  exact c

/-! Constants. -/
theorem whS_c {p : List UInt8 × List UInt8} {m : Nat} {z : List UInt8} (h : (isR p && decide (m ≤ 2) && isW z && decide (whQ m (valR p) = valW z)) = true) : whS p (m : Int) = z := by
  simp only [Bool.and_eq_true, decide_eq_true_eq] at h
  rw [whS_yes h.1.1.1 h.1.1.2, h.2, wd_valW h.1.2]
theorem rndS_c {p g r : List UInt8 × List UInt8} {m : Nat} (h : (isR p && isR g && isR r && decide (0 < valR g) && decide (m ≤ 2) && decide (rndQ m (valR p) (valR g) = valR r)) = true) : rndS p g (m : Int) = r := by
  simp only [Bool.and_eq_true, decide_eq_true_eq] at h
  obtain ⟨⟨⟨⟨⟨h1, h2⟩, h3⟩, h4⟩, h5⟩, h6⟩ := h
  have e := rndS_yes (x := valR p) h4 h5
  rw [rd_valR h1, rd_valR h2, h6, rd_valR h3] at e
  exact e
end Go.Proofs.YtnahepfnejdcgaaGreatDoor
