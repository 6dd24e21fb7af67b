/- Plain numbers: long division, limb by limb. Own work; no program text. -/
import Derived.Test.YtcekdidefomkfaaDoorNumA
namespace Go.Proofs.YtcekdidefomkfaaDoor

/-- Below the two highest limbs. -/
theorem valL_top {xs : List Nat} {k : Nat} (h : xs.length = k + 2) (hs : Small xs) : ∃ lo, lo < Bp k ∧ valL xs = lo + (gl xs k + 1000000000 * gl xs (k + 1)) * Bp k := by
  refine ⟨sumTo (gl xs) k, sumTo_lt (fun j _ => hs.gl j), ?_⟩
  unfold valL
  rw [h, sumTo, sumTo, Bp_succ, Nat.add_mul]
  have : gl xs (k + 1) * (1000000000 * Bp k) = 1000000000 * gl xs (k + 1) * Bp k := by rw [← Nat.mul_assoc, Nat.mul_comm (gl xs (k + 1))]
  omega

/-- The divisor of a step: its highest limb is 0, the one below it a quarter of the base at least. -/
structure Divi (ys : List Nat) (k : Nat) : Prop where
  len : ys.length = k + 2
  small : Small ys
  hi : gl ys (k + 1) = 0
  lo : 250000000 ≤ gl ys k
theorem Divi.ge {ys : List Nat} {k : Nat} (h : Divi ys k) : gl ys k * Bp k ≤ valL ys := by
  obtain ⟨lo, _, h2⟩ := valL_top h.len h.small
  rw [h2, h.hi]
  simp
theorem Divi.pos {ys : List Nat} {k : Nat} (h : Divi ys k) : 0 < valL ys := by
  have h1 := h.ge
  have h2 : 0 < gl ys k * Bp k := Nat.mul_pos (by have := h.lo; omega) (Bp_pos k)
  omega
/-- The estimate is not too small, and fits. -/
theorem Divi.est {xs ys : List Nat} {k : Nat} (h : Divi ys k) (hx : xs.length = k + 2) (hs : Small xs) :
    valL xs / valL ys ≤ (gl xs (k + 1) * 1000000000 + gl xs k) / gl ys k ∧ (gl xs (k + 1) * 1000000000 + gl xs k) / gl ys k ≤ 4000000000 := by
  obtain ⟨lo, h1, h2⟩ := valL_top hx hs
  have hp := h.pos
  have hge := h.ge
  have hv := h.lo
  have b1 := hs.gl k
  have b2 := hs.gl (k + 1)
  refine ⟨?_, ?_⟩
  · rw [Nat.le_div_iff_mul_le (by omega)]
    obtain ⟨q, hq⟩ : ∃ q, valL xs / valL ys = q := ⟨_, rfl⟩
    have h3 : q * valL ys ≤ valL xs := by rw [← hq]; exact Nat.div_mul_le_self _ _
    rw [hq]
    have h4 : q * (gl ys k * Bp k) ≤ q * valL ys := Nat.mul_le_mul_left _ hge
    obtain ⟨u, hu⟩ : ∃ u, gl xs (k + 1) * 1000000000 + gl xs k = u := ⟨_, rfl⟩
    have h5 : valL xs < (u + 1) * Bp k := by
      rw [h2, show gl xs k + 1000000000 * gl xs (k + 1) = u from by omega, Nat.add_mul]
      omega
    have h6 : q * gl ys k * Bp k < (u + 1) * Bp k := by rw [Nat.mul_assoc]; omega
    have h7 := Nat.lt_of_mul_lt_mul_right h6
    omega
  · have : (gl xs (k + 1) * 1000000000 + gl xs k) / gl ys k < 4000000001 := by
      rw [Nat.div_lt_iff_lt_mul (by omega)]
      omega
    omega

/-- How the taking out stands: t times ys is out of xs, bw borrowed; t is not too small. -/
def OutRel (xs ys : List Nat) (zs : List Nat) (n t bw : Nat) : Prop :=
  zs.length = n ∧ Small zs ∧ t ≤ 4000000000 ∧ bw ≤ 4000000001 ∧ valL zs + t * valL ys = valL xs + bw * Bp n ∧ valL xs / valL ys ≤ t
theorem OutRel.start {xs ys zs : List Nat} {k n t bw : Nat} (h : Divi ys k) (hx : xs.length = n) (hn : n = k + 2) (hs : Small xs) (ht : t = (gl xs (k + 1) * 1000000000 + gl xs k) / gl ys k)
    (hz : zs.length = n) (hzs : Small zs) (hb : bw ≤ t + 1) (he : valL zs + t * valL ys = valL xs + bw * Bp n) : OutRel xs ys zs n t bw := by
  obtain ⟨h1, h2⟩ := h.est (by omega) hs
  rw [← ht] at h1 h2
  exact ⟨hz, hzs, h2, by omega, he, h1⟩
theorem OutRel.pos {xs ys zs : List Nat} {n t bw : Nat} (h : OutRel xs ys zs n t bw) (hp : 0 < valL ys) (hb : 0 < bw) : 1 ≤ t ∧ valL xs / valL ys ≤ t - 1 := by
  obtain ⟨h1, h2, h3, h4, h5, h6⟩ := h
  have hz := valL_lt h2
  rw [h1] at hz
  have hb2 : 1 * Bp n ≤ bw * Bp n := Nat.mul_le_mul_right _ hb
  have hlt : valL xs < t * valL ys := by omega
  have h7 : valL xs / valL ys < t := by rw [Nat.div_lt_iff_lt_mul hp]; exact hlt
  exact ⟨Nat.lt_of_le_of_lt (Nat.zero_le _) h7, Nat.le_sub_one_of_lt h7⟩
theorem OutRel.step {xs ys zs zs' : List Nat} {n t bw cy : Nat} (h : OutRel xs ys zs n t bw) (hp : 0 < valL ys) (hb : 0 < bw) (hz : zs'.length = n) (hs : Small zs') (hc : cy ≤ 1)
    (he : valL zs' + cy * Bp n = valL zs + 1 * valL ys) : OutRel xs ys zs' n (t - 1) (bw - cy) := by
  obtain ⟨p1, p2⟩ := h.pos hp hb
  obtain ⟨h1, h2, h3, h4, h5, h6⟩ := h
  refine ⟨hz, hs, by omega, by omega, ?_, p2⟩
  obtain ⟨t, rfl⟩ : ∃ s, t = s + 1 := ⟨t - 1, by omega⟩
  obtain ⟨b, rfl⟩ : ∃ s, bw = s + cy := ⟨bw - cy, by omega⟩
  rw [Nat.add_sub_cancel, Nat.add_sub_cancel]
  rw [Nat.add_mul, Nat.add_mul] at h5
  omega
theorem OutRel.done {xs ys zs : List Nat} {n t : Nat} (h : OutRel xs ys zs n t 0) (hp : 0 < valL ys) : t = valL xs / valL ys ∧ valL zs = valL xs % valL ys := by
  obtain ⟨h1, h2, h3, h4, h5, h6⟩ := h
  have h7 : t ≤ valL xs / valL ys := by rw [Nat.le_div_iff_mul_le hp]; omega
  have h8 : t = valL xs / valL ys := Nat.le_antisymm h7 h6
  have h9 := Nat.mod_add_div (valL xs) (valL ys)
  rw [← h8, Nat.mul_comm] at h9
  exact ⟨h8, by omega⟩
end Go.Proofs.YtcekdidefomkfaaDoor
