/- The fixed calls at the head of each statement of layer 1, and constants. -/
import Derived.Test.YtcekdidefomkfaaDoorWorld
import Derived.Test.YtcekdidefomkfaaDoorRefG
namespace Go.Proofs.YtcekdidefomkfaaDoor
open Go.RowKit

theorem addS_const {a b q : List UInt8} (h : (isNat a && isNat b && isNat q && decide (valS a + valS b = valS q)) = true) : addS a b = q := by
  simp only [Bool.and_eq_true, decide_eq_true_eq] at h
  obtain ⟨⟨⟨h1, h2⟩, h3⟩, h4⟩ := h
  unfold addS; rw [h1, h2, h4]; exact dig_valS h3
theorem mulS_const {a b q : List UInt8} (h : (isNat a && isNat b && isNat q && decide (valS a * valS b = valS q)) = true) : mulS a b = q := by
  simp only [Bool.and_eq_true, decide_eq_true_eq] at h
  obtain ⟨⟨⟨h1, h2⟩, h3⟩, h4⟩ := h
  unfold mulS; rw [h1, h2, h4]; exact dig_valS h3
theorem gcdS_const {a b q : List UInt8} (h : (isNat a && isNat b && isNat q && decide (Nat.gcd (valS a) (valS b) = valS q)) = true) : gcdS a b = q := by
  simp only [Bool.and_eq_true, decide_eq_true_eq] at h
  obtain ⟨⟨⟨h1, h2⟩, h3⟩, h4⟩ := h
  unfold gcdS; rw [h1, h2, h4]; exact dig_valS h3
theorem subS_const {a b q : List UInt8} (h : (isNat a && isNat b && isNat q && decide (valS b ≤ valS a) && decide (valS a - valS b = valS q)) = true) : subS a b = (q, true) := by
  simp only [Bool.and_eq_true, decide_eq_true_eq] at h
  obtain ⟨⟨⟨⟨h1, h2⟩, h3⟩, h4⟩, h5⟩ := h
  unfold subS; rw [h1, h2, decide_eq_true h4, h5, dig_valS h3]; rfl
theorem subS_none {a b : List UInt8} (h : (isNat a && isNat b && decide (valS b ≤ valS a)) = false) : subS a b = ([], false) := by
  unfold subS; rw [h]; rfl
theorem divS_const {a b q r : List UInt8} (h : (isNat a && isNat b && isNat q && isNat r && decide (0 < valS b) && decide (valS a / valS b = valS q) && decide (valS a % valS b = valS r)) = true) : divS a b = (q, r, true) := by
  simp only [Bool.and_eq_true, decide_eq_true_eq] at h
  obtain ⟨⟨⟨⟨⟨⟨h1, h2⟩, h3⟩, h4⟩, h5⟩, h6⟩, h7⟩ := h
  unfold divS; rw [h1, h2, decide_eq_true h5, h6, h7, dig_valS h3, dig_valS h4]; rfl
theorem divS_none {a b : List UInt8} (h : (isNat a && isNat b && decide (0 < valS b)) = false) : divS a b = ([], [], false) := by
  unfold divS; rw [h]; rfl
/-- A call's answer, and nothing that was there has turned. -/
def GiveB (w : World) (b : Bool) (e : Ending) (w' : World) : Prop := e = .returned (.bool b) ∧ Below w.heap.size w w'
theorem Below.more {u v w : World} (h : Below u.heap.size u v) (k : Below v.heap.size v w) : Below u.heap.size u w := h.trans (k.mono h.size)

theorem fx1 (w : World) : Calls Tryd.prog 20 #[.string ⟨#[49, 48, 48, 48, 48, 48, 48, 48, 48, 48, 48, 48, 48, 48, 48, 48, 48, 48, 48, 48, 48, 48]⟩, .string ⟨#[55]⟩] w (GiveSSB w ([49, 52, 50, 56, 53, 55, 49, 52, 50, 56, 53, 55, 49, 52, 50, 56, 53, 55, 49, 52, 50], [54], true)) := by
  have h := div_any ⟨#[49, 48, 48, 48, 48, 48, 48, 48, 48, 48, 48, 48, 48, 48, 48, 48, 48, 48, 48, 48, 48, 48]⟩ ⟨#[55]⟩ w (by decide) (by decide)
  rw [show divS ((⟨#[49, 48, 48, 48, 48, 48, 48, 48, 48, 48, 48, 48, 48, 48, 48, 48, 48, 48, 48, 48, 48, 48]⟩ : ByteArray)).data.toList ((⟨#[55]⟩ : ByteArray)).data.toList = ([49, 52, 50, 56, 53, 55, 49, 52, 50, 56, 53, 55, 49, 52, 50, 56, 53, 55, 49, 52, 50], [54], true) from divS_const (by decide)] at h
  exact h
theorem fx2 (w : World) : Calls Tryd.prog 20 #[.string ⟨#[55]⟩, .string ⟨#[48]⟩] w (GiveSSB w ([], [], false)) := by
  have h := div_any ⟨#[55]⟩ ⟨#[48]⟩ w (by decide) (by decide)
  rw [show divS ((⟨#[55]⟩ : ByteArray)).data.toList ((⟨#[48]⟩ : ByteArray)).data.toList = ([], [], false) from divS_none (by decide)] at h
  exact h
theorem fx3 (w : World) : Calls Tryd.prog 18 #[.string ⟨#[49, 48, 48, 48, 48]⟩, .string ⟨#[49]⟩] w (GiveSB w ([57, 57, 57, 57], true)) := by
  have h := sub_any ⟨#[49, 48, 48, 48, 48]⟩ ⟨#[49]⟩ w (by decide) (by decide)
  rw [show subS ((⟨#[49, 48, 48, 48, 48]⟩ : ByteArray)).data.toList ((⟨#[49]⟩ : ByteArray)).data.toList = ([57, 57, 57, 57], true) from subS_const (by decide)] at h
  exact h
theorem fx4 (w : World) : Calls Tryd.prog 18 #[.string ⟨#[49]⟩, .string ⟨#[50]⟩] w (GiveSB w ([], false)) := by
  have h := sub_any ⟨#[49]⟩ ⟨#[50]⟩ w (by decide) (by decide)
  rw [show subS ((⟨#[49]⟩ : ByteArray)).data.toList ((⟨#[50]⟩ : ByteArray)).data.toList = ([], false) from subS_none (by decide)] at h
  exact h
theorem fx5 (w : World) (he : GoodE w) : Calls Tryd.prog 22 #[.string ⟨#[57, 50, 50, 51, 51, 55, 50, 48, 51, 54, 56, 53, 52, 55, 55, 53, 56, 48, 55]⟩] w (GiveIB w (9223372036854775807, true)) := by
  obtain ⟨tp, p, hv⟩ := he
  have h := small_any ⟨#[57, 50, 50, 51, 51, 55, 50, 48, 51, 54, 56, 53, 52, 55, 55, 53, 56, 48, 55]⟩ w (by decide) tp p hv
  rw [show smallS ((⟨#[57, 50, 50, 51, 51, 55, 50, 48, 51, 54, 56, 53, 52, 55, 55, 53, 56, 48, 55]⟩ : ByteArray)).data.toList = (9223372036854775807, true) from by decide] at h
  exact h
theorem fx6 (w : World) (he : GoodE w) : Calls Tryd.prog 22 #[.string ⟨#[57, 50, 50, 51, 51, 55, 50, 48, 51, 54, 56, 53, 52, 55, 55, 53, 56, 48, 56]⟩] w (GiveIB w (0, false)) := by
  obtain ⟨tp, p, hv⟩ := he
  have h := small_any ⟨#[57, 50, 50, 51, 51, 55, 50, 48, 51, 54, 56, 53, 52, 55, 55, 53, 56, 48, 56]⟩ w (by decide) tp p hv
  rw [show smallS ((⟨#[57, 50, 50, 51, 51, 55, 50, 48, 51, 54, 56, 53, 52, 55, 55, 53, 56, 48, 56]⟩ : ByteArray)).data.toList = (0, false) from by decide] at h
  exact h
theorem fx7 (w : World) : Calls Tryd.prog 30 #[.string ⟨#[57, 57, 57, 57]⟩, .string ⟨#[49]⟩] w (GiveS w [49, 48, 48, 48, 48]) := by
  have h := add_any ⟨#[57, 57, 57, 57]⟩ ⟨#[49]⟩ w (by decide) (by decide)
  rw [show addS ((⟨#[57, 57, 57, 57]⟩ : ByteArray)).data.toList ((⟨#[49]⟩ : ByteArray)).data.toList = [49, 48, 48, 48, 48] from addS_const (by decide)] at h
  exact h
theorem fx8 (w : World) : Calls Tryd.prog 32 #[.string ⟨#[57, 57, 57, 57, 57]⟩, .string ⟨#[57, 57, 57, 57, 57]⟩] w (GiveS w [57, 57, 57, 57, 56, 48, 48, 48, 48, 49]) := by
  have h := mul_any ⟨#[57, 57, 57, 57, 57]⟩ ⟨#[57, 57, 57, 57, 57]⟩ w (by decide) (by decide)
  rw [show mulS ((⟨#[57, 57, 57, 57, 57]⟩ : ByteArray)).data.toList ((⟨#[57, 57, 57, 57, 57]⟩ : ByteArray)).data.toList = [57, 57, 57, 57, 56, 48, 48, 48, 48, 49] from mulS_const (by decide)] at h
  exact h
theorem fx9 (w : World) : Calls Tryd.prog 34 #[.string ⟨#[49, 50]⟩, .string ⟨#[49, 56]⟩] w (GiveS w [54]) := by
  have h := gcd_any ⟨#[49, 50]⟩ ⟨#[49, 56]⟩ w (by decide) (by decide)
  rw [show gcdS ((⟨#[49, 50]⟩ : ByteArray)).data.toList ((⟨#[49, 56]⟩ : ByteArray)).data.toList = [54] from gcdS_const (by decide)] at h
  exact h
theorem fx10 (w : World) : Calls Tryd.prog 34 #[.string ⟨#[48]⟩, .string ⟨#[53]⟩] w (GiveS w [53]) := by
  have h := gcd_any ⟨#[48]⟩ ⟨#[53]⟩ w (by decide) (by decide)
  rw [show gcdS ((⟨#[48]⟩ : ByteArray)).data.toList ((⟨#[53]⟩ : ByteArray)).data.toList = [53] from gcdS_const (by decide)] at h
  exact h
theorem fx11 (w : World) : Calls Tryd.prog 28 #[.string ⟨#[57]⟩, .string ⟨#[49, 48]⟩] w fun e w' => e = .returned (.int .i64 (-1)) ∧ w = w' := by
  have h := cmp_any ⟨#[57]⟩ ⟨#[49, 48]⟩ w (by decide) (by decide)
  rw [show cmpS ((⟨#[57]⟩ : ByteArray)).data.toList ((⟨#[49, 48]⟩ : ByteArray)).data.toList = -1 from by decide] at h
  exact h
theorem fx12 (w : World) : Calls Tryd.prog 24 #[.string ⟨#[48]⟩] w fun e w' => e = .returned (.bool true) ∧ w = w' := by
  have h := may_any ⟨#[48]⟩ w (by decide)
  rw [show isNat ((⟨#[48]⟩ : ByteArray)).data.toList = true from by decide] at h
  exact h
theorem fx13 (w : World) : Calls Tryd.prog 24 #[.string ⟨#[48, 49]⟩] w fun e w' => e = .returned (.bool false) ∧ w = w' := by
  have h := may_any ⟨#[48, 49]⟩ w (by decide)
  rw [show isNat ((⟨#[48, 49]⟩ : ByteArray)).data.toList = false from by decide] at h
  exact h
theorem fx14 (w : World) (ht : GoodT w) : Calls Tryd.prog 26 #[.int .i64 7] w (GiveS w [55]) := by
  have h := of_any 7 w (by decide) (by decide) ht
  rw [show ofS 7 = [55] from (by unfold ofS; rw [if_neg (by decide)]; exact dig_valS (l := [55]) (by decide))] at h
  exact h
theorem fx15 (w : World) : Calls Tryd.prog 30 #[.string ⟨#[]⟩, .string ⟨#[49]⟩] w (GiveS w []) := by
  have h := add_any ⟨#[]⟩ ⟨#[49]⟩ w (by decide) (by decide)
  rw [show addS ((⟨#[]⟩ : ByteArray)).data.toList ((⟨#[49]⟩ : ByteArray)).data.toList = [] from rfl] at h
  exact h

set_option maxRecDepth 100000 in
set_option maxHeartbeats 1000000 in
theorem fixed1_any (w : World) (ht : GoodT w) (he : GoodE w) :
    Calls Tryd.prog 17 #[] w (GiveB w true) := by
  have HT := Lib.hid ht; have HE := Lib.hid he
  clear ht he
  go_enter Tryd.func17, Tryd.ntmps17
  go_wp2_with fail
  refine (fx1 _).mono ?_
  rintro e w1 ⟨rfl, b⟩
  have B1 := b
  clear b
  go_wp2_with fail
  refine (fx2 _).mono ?_
  rintro e w2 ⟨rfl, b⟩
  have B2 := Below.more B1 b
  clear b
  go_wp2_with fail
  refine (fx3 _).mono ?_
  rintro e w3 ⟨rfl, b⟩
  have B3 := Below.more B2 b
  clear b
  go_wp2_with fail
  refine (fx4 _).mono ?_
  rintro e w4 ⟨rfl, b⟩
  have B4 := Below.more B3 b
  clear b
  go_wp2_with fail
  refine (fx5 _ (HE.out.below B4)).mono ?_
  rintro e w5 ⟨rfl, b⟩
  have B5 := Below.more B4 b
  clear b
  go_wp2_with fail
  refine (fx6 _ (HE.out.below B5)).mono ?_
  rintro e w6 ⟨rfl, b⟩
  have B6 := Below.more B5 b
  clear b
  go_wp2_with fail
  refine (fx7 _).mono ?_
  rintro e w7 ⟨rfl, b⟩
  have B7 := Below.more B6 b
  clear b
  go_wp2_with fail
  refine (fx8 _).mono ?_
  rintro e w8 ⟨rfl, b⟩
  have B8 := Below.more B7 b
  clear b
  go_wp2_with fail
  refine (fx9 _).mono ?_
  rintro e w9 ⟨rfl, b⟩
  have B9 := Below.more B8 b
  clear b
  go_wp2_with fail
  refine (fx10 _).mono ?_
  rintro e w10 ⟨rfl, b⟩
  have B10 := Below.more B9 b
  clear b
  go_wp2_with fail
  refine (fx11 _).mono ?_
  rintro e w' ⟨rfl, rfl⟩
  go_wp2_with fail
  refine (fx12 _).mono ?_
  rintro e w' ⟨rfl, rfl⟩
  go_wp2_with fail
  refine (fx13 _).mono ?_
  rintro e w' ⟨rfl, rfl⟩
  go_wp2_with fail
  refine (fx14 _ (HT.out.below B10)).mono ?_
  rintro e w11 ⟨rfl, b⟩
  have B11 := Below.more B10 b
  clear b
  go_wp2_with fail
  refine (fx15 _).mono ?_
  rintro e w12 ⟨rfl, b⟩
  have B12 := Below.more B11 b
  clear b
  go_wp2_with fail
  go_ret
  exact ⟨rfl, B12⟩
end Go.Proofs.YtcekdidefomkfaaDoor
