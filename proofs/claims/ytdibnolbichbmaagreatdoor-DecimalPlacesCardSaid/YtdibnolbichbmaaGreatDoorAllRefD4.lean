/- The document's answers for decimals: plain facts for the print with a point. -/
import Derived.Test.YtdibnolbichbmaaGreatDoorAllRefD3
namespace Go.Proofs.YtdibnolbichbmaaGreatDoor
open Go.RowKit

theorem plc_bound {d k L : Nat} (hd : 0 < d) (h : plc d = some k) (hL : d < 10 ^ L) : k < 4 * L := by
  obtain ⟨a, b, r, e, _, _, hr, hp⟩ := plc_parts d hd
  rw [hp] at h
  by_cases h1 : r = 1
  · rw [if_pos h1] at h
    have hk : max a b = k := Option.some.inj h
    have h2 : 0 < 2 ^ a := Nat.pow_pos (by decide)
    have h5 : 0 < 5 ^ b := Nat.pow_pos (by decide)
    have h6 : (2 : Nat) ^ b ≤ 5 ^ b := Nat.pow_le_pow_left (by decide) b
    rw [h1, Nat.mul_one] at e
    have ha : 2 ^ a ≤ d := by rw [e]; exact Nat.le_mul_of_pos_right _ h5
    have hb : 2 ^ b ≤ d := by rw [e]; exact Nat.le_trans h6 (Nat.le_mul_of_pos_left _ h2)
    have hm : 1 * 2 ^ k ≤ d := by
      rw [Nat.one_mul]
      rcases Nat.le_total a b with h | h
      · rw [show k = b by omega]; exact hb
      · rw [show k = a by omega]; exact ha
    exact two_bound (by decide) hm hL
  · rw [if_neg h1] at h; cases h

theorem ten_text (k : Nat) : ((⟨#[49]⟩ : ByteArray) ++ ⟨(zerS (k : Int)).toArray⟩).data.toList = dig (10 ^ k) := by
  rw [ba_append, dig_ten]; unfold zerS; rw [Int.toNat_natCast]; rfl
theorem mul_ten_text {p : List UInt8 × List UInt8} {k : Nat} (h : isR p = true) (hp : plc (valR p).den = some k) :
    mulR p (dig (10 ^ k), [49]) = (wd ((valR p).num * ((10 ^ k / (valR p).den : Nat) : Int)), [49]) := by
  have e : (dig (10 ^ k), [49]) = rd ((((10 ^ k : Nat) : Int)) : Rat) := by
    show _ = (wd _, dig _)
    rw [Rat.num_intCast, Rat.den_intCast, wd_nat, dig_one]
  have hd := (plc_dvd (k := k) (Nat.pos_of_ne_zero (valR p).den_nz)).2 ⟨k, hp, Nat.le_refl _⟩
  unfold mulR
  rw [h, e, isR_rd, valR_rd, mul_ten hd]
  show (wd _, dig _) = _
  rw [Rat.num_intCast, Rat.den_intCast, dig_one]
theorem abs_wd (z : Int) : absW (wd z) = dig z.natAbs := by unfold absW; rw [isW_wd, valW_wd]; rfl
theorem sgn_lt {p : List UInt8 × List UInt8} (h : isR p = true) : (sgnR p < 0 ↔ (valR p).num < 0) := by
  rw [← sgn_is h]
  unfold sgnW
  rw [(isR_parts h).1, ← valR_num h]
  show ((if _ then _ else if _ then _ else _) < (0 : Int)) ↔ _
  split
  · omega
  · split <;> omega
end Go.Proofs.YtdibnolbichbmaaGreatDoor
