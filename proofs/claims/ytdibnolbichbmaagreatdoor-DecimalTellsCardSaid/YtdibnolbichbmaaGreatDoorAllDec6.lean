/- What the laws of layer 4 want besides: a whole number as a fraction, rows of fractions, constants. -/
import Derived.Test.YtdibnolbichbmaaGreatDoorAllApiQ
import Derived.Test.YtdibnolbichbmaaGreatDoorAllRefD9
import Derived.Test.YtdibnolbichbmaaGreatDoorAllDec5
namespace Go.Proofs.YtdibnolbichbmaaGreatDoor
open Go.RowKit

set_option maxRecDepth 100000 in
set_option maxHeartbeats 1000000 in
theorem rqof_any (n : Int) (w : World) (h0 : -9223372036854775808 ≤ n) (h1 : n ≤ 9223372036854775807) :
    Calls Tryz.prog 22 #[.int .i64 n] w (GiveR w (wd n, [49])) := by
  have ca := fun w => rwof_any n w h0 h1
  generalize wd n = s at *
  clear h0 h1
  have CA := Lib.hid ca
  clear ca
  go_enter Tryz.func22, Tryz.ntmps22
  go_wp2_with fail
  obtain ⟨W, hW, BW, sW, r0, r1, r2, r3⟩ := box0z w (.string ⟨#[]⟩) (.string ⟨#[]⟩) 23
  have hB := Lib.hid (Nat.le_refl W.heap.size)
  rw [hW]; clear hW
  have b0 := Below.refl W.heap.size W
  refine (CA.out _).mono ?_
  rintro e w1 ⟨rfl, b⟩
  have b1 := Below.more b0 b
  clear b
  go_wp2_with fail
  refine bodyPost_ret (v := .agg #[.string ⟨s.toArray⟩, .string ⟨#[49]⟩]) (by simp [results, Tryz.results22, go_sem, *]) rfl ⟨rfl, ?_⟩
  exact put2 (Below.more BW b1) (Nat.le_refl _) _ _
theorem short1q (w : World) (a : ByteArray × ByteArray) : Calls Tryz.prog 8 #[.slice (some ⟨w.heap.size, 0, none⟩) 1 1] (w.alloc (.cells #[.string a.1, .string a.2] 23)) fun e w' => e = .returned (.bool (shQ a)) ∧ Below w.heap.size w w' :=
  (qshort_any _ _ 0 1 1 _ (by decide) (Nat.le_refl _) (rats1 w a _)).mono fun _ _ ⟨he, hb⟩ => ⟨by rw [he, allQ_one], hb ▸ Below.step _ (Below.refl _ _)⟩
theorem good2 (w : World) (a b : ByteArray × ByteArray) : Calls Tryz.prog 16 #[.slice (some ⟨w.heap.size, 0, none⟩) 2 2] (w.alloc (.cells #[.string a.1, .string a.2, .string b.1, .string b.2] 23)) fun e w' => e = .returned (.bool (gdQ a && gdQ b)) ∧ Below w.heap.size w w' :=
  (qgood_any _ _ 2 2 _ (by decide) (Nat.le_refl _) (by decide) (rats2 w a b _) (lt_new _ _)).mono fun _ _ ⟨he, hb⟩ => ⟨by
    rw [he]
    show Ending.returned (.bool ((true && gdQ a) && gdQ b)) = _
    rw [Bool.true_and], Below.step _ hb⟩

/-! Constants. -/
theorem parS_c {l : List UInt8} {r : List UInt8 × List UInt8} (h : (decide (l.length ≤ 1000) && isR r && decide (parU l = some (valR r))) = true) : parS l = (r, 0) := by
  simp only [Bool.and_eq_true, decide_eq_true_eq] at h
  rw [parS_some h.1.1 h.2, rd_valR h.1.2]
theorem parS_c0 {l : List UInt8} (h : decide (parU l = none) = true) : parS l = (([], []), 40) := parS_none (of_decide_eq_true h)
theorem plS_c {p : List UInt8 × List UInt8} (A B : Nat) (h : (isR p && decide ((valR p).den = 2 ^ A * 5 ^ B)) = true) : plS p = (((max A B : Nat) : Int), true) := by
  rw [Bool.and_eq_true, decide_eq_true_eq] at h
  have e := plc_is (A := A) (B := B) (r := 1) (by decide) (by decide) (by decide)
  rw [Nat.mul_one] at e
  rw [pl_den h.1, h.2, e]; rfl
theorem plS_c0 {p : List UInt8 × List UInt8} (A B r : Nat) (h : (isR p && decide ((valR p).den = 2 ^ A * (5 ^ B * r)) && decide (0 < r) && decide (r % 2 ≠ 0) && decide (r % 5 ≠ 0) && decide (r ≠ 1)) = true) : plS p = (0, false) ∧ plc (valR p).den = none := by
  simp only [Bool.and_eq_true, decide_eq_true_eq] at h
  have e := plc_is (A := A) (B := B) (r := r) h.1.1.1.2 h.1.1.2 h.1.2
  rw [if_neg h.2, ← h.1.1.1.1.2] at e
  exact ⟨by rw [pl_den h.1.1.1.1.1, e]; rfl, e⟩
theorem prS_c {p : List UInt8 × List UInt8} (A B : Nat) {m t : List UInt8} (h : (isR p && decide ((valR p).den = 2 ^ A * 5 ^ B) && isNat m && decide (valS m = (valR p).num.natAbs * (10 ^ (max A B) / (valR p).den)) && decide (sgnD (decide ((valR p).num < 0)) (bodyD (max A B) m) = t)) = true) : prS p = t := by
  simp only [Bool.and_eq_true, decide_eq_true_eq] at h
  have e := plc_is (A := A) (B := B) (r := 1) (by decide) (by decide) (by decide)
  rw [Nat.mul_one, ← h.1.1.1.2] at e
  rw [prS_yes h.1.1.1.1, prD_body (k := max A B) (by rw [e]; rfl), ← h.1.2, dig_valS h.1.1.2]
  exact h.2
theorem prS_c0 {p : List UInt8 × List UInt8} {t : List UInt8} (h : isR p = true) (hp : plc (valR p).den = none) (ht : p.1 ++ 47 :: p.2 = t) : prS p = t := by
  rw [prS_yes h, prD_none hp, ← (isR_den h).1, ← (isR_den h).2, ht]
end Go.Proofs.YtdibnolbichbmaaGreatDoor
