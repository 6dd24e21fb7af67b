/- Plain numbers: long division, place by place from behind. Own work; no program text. -/
import Derived.Test.YtcekdidefomkfaaDoorNumD
import Derived.Test.YtcekdidefomkfaaDoorNumU
namespace Go.Proofs.YtcekdidefomkfaaDoor

theorem le_sumTo (f : Nat → Nat) {j k : Nat} (h : j < k) : f j * Bp j ≤ sumTo f k := by
  have h1 := sumTo_mono f (show j + 1 ≤ k from h)
  rw [sumTo] at h1
  omega
/-- What is below the place c has no limbs from c on. -/
theorem hiV_zeros {f : Nat → Nat} {m n c : Nat} (h : hiV f m n < Bp c) {j : Nat} (h1 : m + c ≤ j) (h2 : j < n) : f j = 0 := by
  rcases Nat.eq_zero_or_pos (f j) with h0 | h0
  · exact h0
  · exfalso
    unfold hiV at h
    have h3 : f (m + (j - m)) * Bp (j - m) ≤ sumTo (fun i => f (m + i)) (n - m) := le_sumTo (fun i => f (m + i)) (j := j - m) (k := n - m) (by omega)
    rw [show m + (j - m) = j from by omega] at h3
    have h4 := Bp_mono (i := c) (j := j - m) (by omega)
    have h5 : 1 * Bp (j - m) ≤ f j * Bp (j - m) := Nat.mul_le_mul_right _ h0
    omega
theorem sumTo_cut {g : Nat → Nat} {c k : Nat} (hc : c ≤ k) (hz : ∀ j, c ≤ j → j < k → g j = 0) : sumTo g k = sumTo g c := by
  obtain ⟨d, rfl⟩ := Nat.exists_eq_add_of_le hc
  clear hc
  induction d with
  | zero => rfl
  | succ d ih => rw [← Nat.add_assoc, sumTo, ih (fun j h1 h2 => hz j h1 (by omega)), hz _ (by omega) (by omega)]; simp
theorem hiV_cut {f : Nat → Nat} {m n c : Nat} (h : hiV f m n < Bp c) (hn : m + c ≤ n) : hiV f m (m + c) = hiV f m n := by
  unfold hiV
  rw [Nat.add_sub_cancel_left]
  refine (sumTo_cut (by omega) (fun j h1 h2 => ?_)).symm
  exact hiV_zeros h (by omega) (by omega)
theorem valL_window (left : List Nat) {i n : Nat} (h : i + n ≤ left.length) : valL (window left i n) = hiV (gl left) i (i + n) := by
  unfold valL hiV
  rw [window_length h, Nat.add_sub_cancel_left]
  exact sumTo_congr (fun j hj => gl_window hj)

/-- k places from behind are divided: what stands in left and quot. -/
structure DvKey (ys left0 : List Nat) (mq k : Nat) (left quot : List Nat) : Prop where
  hi : hiV (gl left) (mq - k) left0.length < valL ys
  low : ∀ j, j < mq - k → gl left j = gl left0 j
  eq : hiV (gl left0) (mq - k) left0.length = hiV (gl quot) (mq - k) mq * valL ys + hiV (gl left) (mq - k) left0.length
  small : ∀ j, gl quot j < 1000000000

theorem DvKey.step {ys left0 : List Nat} {mq k nb : Nat} {left quot zs : List Nat} (h : DvKey ys left0 mq k left quot) (hk : k < mq) (hl0 : left0.length = mq + nb) (hl : left.length = mq + nb) (hq : quot.length = mq)
    (hls : Small left) (hz : zs.length = nb + 1) (hD : 0 < valL ys) (hDb : valL ys < Bp nb) (hv : valL zs = valL (window left (mq - 1 - k) (nb + 1)) % valL ys) :
    DvKey ys left0 mq (k + 1) (splice left (mq - 1 - k) zs) (quot.set (mq - 1 - k) (valL (window left (mq - 1 - k) (nb + 1)) / valL ys)) := by
  obtain ⟨h1, h2, h3, h4⟩ := h
  obtain ⟨m, hm⟩ : ∃ m, mq - k = m + 1 := ⟨mq - k - 1, by omega⟩
  have hi : mq - 1 - k = m := by omega
  have hk1 : mq - (k + 1) = m := by omega
  rw [hm] at h1 h2 h3
  rw [hi] at hv ⊢
  have h1b := Nat.lt_trans h1 hDb
  have hcut := hiV_cut h1b (by omega)
  have hwin : valL (window left m (nb + 1)) = gl left0 m + 1000000000 * hiV (gl left) (m + 1) left0.length := by
    rw [valL_window left (by omega), hiV_step _ (by omega), h2 m (by omega), ← hcut, show m + (nb + 1) = m + 1 + nb from by omega]
  obtain ⟨T, hT⟩ : ∃ T, hiV (gl left) (m + 1) left0.length = T := ⟨_, rfl⟩
  obtain ⟨W, hW⟩ : ∃ W, valL (window left m (nb + 1)) = W := ⟨_, rfl⟩
  rw [hW] at hwin hv ⊢
  rw [hT] at hwin h1 h3
  have hql : W / valL ys < 1000000000 := by
    rw [Nat.div_lt_iff_lt_mul hD]
    have : (T + 1) * 1000000000 ≤ valL ys * 1000000000 := Nat.mul_le_mul_right _ h1
    have h5 : gl left0 m < 1000000000 := by
      rw [← h2 m (by omega)]
      exact hls.gl m
    omega
  have hsp := gl_splice (zs := left) (ws := zs) (k := m) (by omega)
  have hhi : hiV (gl (splice left m zs)) m left0.length = valL zs := by
    have hzero : ∀ j, m + (nb + 1) ≤ j → j < left0.length → gl (splice left m zs) j = 0 := fun j g1 g2 => by
      rw [hsp, if_neg (by omega), if_neg (by omega)]
      exact hiV_zeros h1b (by omega) g2
    have hk9 : nb + 1 ≤ left0.length - m := by omega
    have e1 : hiV (gl (splice left m zs)) m left0.length = sumTo (fun j => gl (splice left m zs) (m + j)) (nb + 1) :=
      sumTo_cut (g := fun j => gl (splice left m zs) (m + j)) (c := nb + 1) (k := left0.length - m) hk9 (fun j g1 g2 => hzero (m + j) (by omega) (by omega))
    have e2 : valL zs = sumTo (gl zs) (nb + 1) := by unfold valL; rw [hz]
    rw [e1, e2]
    refine sumTo_congr (fun j hj => ?_)
    rw [hsp, if_neg (by omega), if_pos (by omega), Nat.add_sub_cancel_left]
  refine ⟨?_, fun j hj => ?_, ?_, fun j => ?_⟩
  · rw [hk1, hhi, hv]
    exact Nat.mod_lt _ hD
  · rw [hk1] at hj
    rw [hsp, if_pos hj]
    exact h2 j (by omega)
  · rw [hk1, hhi, hv, hiV_step (gl left0) (show m < left0.length from by omega), h3, hiV_step _ (show m < mq from by omega), gl_set_same (by omega)]
    rw [hiV_congr (f := gl (quot.set m (W / valL ys))) (g := gl quot) (fun j g1 g2 => gl_set_other (by omega))]
    have h9 := Nat.mod_add_div W (valL ys)
    rw [Nat.mul_comm] at h9
    rw [Nat.add_mul, Nat.mul_add, Nat.mul_assoc]
    omega
  · by_cases e : j = m
    · subst e; rw [gl_set_same (by omega)]; exact hql
    · rw [gl_set_other (fun e' => e e'.symm)]; exact h4 j

/-- At the end quot is the quotient, left what is left. -/
theorem DvKey.done {ys left0 : List Nat} {mq : Nat} {left quot : List Nat} (h : DvKey ys left0 mq mq left quot) (hl : left.length = left0.length) (hq : quot.length = mq) (hD : 0 < valL ys) :
    Small quot ∧ valL quot = valL left0 / valL ys ∧ valL left = valL left0 % valL ys := by
  obtain ⟨h1, h2, h3, h4⟩ := h
  rw [Nat.sub_self, hiV_zero] at h1 h3
  rw [hiV_zero, hiV_zero] at h3
  have e1 : sumTo (gl left0) left0.length = valL left0 := rfl
  have e2 : sumTo (gl left) left0.length = valL left := by unfold valL; rw [hl]
  have e3 : sumTo (gl quot) mq = valL quot := by unfold valL; rw [hq]
  rw [e1, e2, e3] at h3
  rw [e2] at h1
  refine ⟨Small.of_gl (fun j _ => h4 j), ?_, ?_⟩
  · rw [h3, Nat.add_comm, Nat.add_mul_div_right _ _ hD, Nat.div_eq_of_lt h1, Nat.zero_add]
  · rw [h3, Nat.add_comm, Nat.add_mul_mod_self_right, Nat.mod_eq_of_lt h1]
/-- At the start nothing is divided. -/
theorem DvKey.start {ys left0 : List Nat} {mq : Nat} (h : hiV (gl left0) mq left0.length < valL ys) : DvKey ys left0 mq 0 left0 (List.replicate mq 0) := by
  refine ⟨by rw [Nat.sub_zero]; exact h, fun _ _ => rfl, ?_, fun j => by rw [gl_zeros]; decide⟩
  rw [Nat.sub_zero, hiV_end]
  omega

/-- The scale: what it does to the divisor. -/
theorem scale_ok {ys zs : List Nat} {nb t : Nat} (hn : Norm ys) (hs : Small ys) (hl : ys.length = nb + 1) (ht : t = 1000000000 / (gl ys nb + 1)) (hz : zs.length = nb + 2) (hzs : Small zs) (hv : valL zs = t * valL ys) :
    0 < t ∧ t ≤ 999999999 ∧ Divi zs nb ∧ valL zs < Bp (nb + 1) := by
  have h0 : gl ys nb ≠ 0 := by
    have := hn (by intro e; rw [e] at hl; simp at hl)
    rw [hl, Nat.add_sub_cancel] at this
    exact this
  have h1 := hs.gl nb
  have ht1 : t * (gl ys nb + 1) ≤ 1000000000 := by rw [ht]; exact Nat.div_mul_le_self _ _
  have ht2 : 1000000000 < (t + 1) * (gl ys nb + 1) := by
    have e1 := Nat.div_add_mod 1000000000 (gl ys nb + 1)
    have e2 := Nat.mod_lt 1000000000 (show 0 < gl ys nb + 1 from by omega)
    rw [← ht, Nat.mul_comm] at e1
    rw [Nat.add_mul, Nat.one_mul]
    omega
  have htp : 0 < t := by rw [ht]; exact Nat.div_pos (by omega) (by omega)
  have htb : t ≤ 500000000 := by
    have : t * 2 ≤ t * (gl ys nb + 1) := Nat.mul_le_mul_left _ (by omega)
    omega
  have hlow : sumTo (gl ys) nb < Bp nb := sumTo_lt (fun j _ => hs.gl j)
  have hval : valL ys = sumTo (gl ys) nb + gl ys nb * Bp nb := by unfold valL; rw [hl, sumTo]
  have hlt : valL zs < Bp (nb + 1) := by
    rw [hv, Bp_succ]
    have : t * (valL ys + 1) ≤ t * ((gl ys nb + 1) * Bp nb) := Nat.mul_le_mul_left _ (by rw [hval, Nat.add_mul]; omega)
    rw [← Nat.mul_assoc] at this
    have h5 : t * (gl ys nb + 1) * Bp nb ≤ 1000000000 * Bp nb := Nat.mul_le_mul_right _ ht1
    rw [Nat.mul_add] at this
    omega
  have hhi : gl zs (nb + 1) = 0 := by
    rcases Nat.eq_zero_or_pos (gl zs (nb + 1)) with h | h
    · exact h
    · exfalso
      have h3 := le_sumTo (gl zs) (j := nb + 1) (k := nb + 2) (by omega)
      have h4 : sumTo (gl zs) (nb + 2) = valL zs := by unfold valL; rw [hz]
      have h5 : 1 * Bp (nb + 1) ≤ gl zs (nb + 1) * Bp (nb + 1) := Nat.mul_le_mul_right _ h
      omega
  refine ⟨htp, by omega, ⟨hz, hzs, hhi, ?_⟩, hlt⟩
  -- the limb below the highest one
  have hz2 : valL zs = sumTo (gl zs) nb + gl zs nb * Bp nb := by
    unfold valL
    rw [hz, sumTo, hhi, Nat.zero_mul, Nat.add_zero, sumTo]
  have hzlow : sumTo (gl zs) nb < Bp nb := sumTo_lt (fun j _ => hzs.gl j)
  have hge : t * gl ys nb * Bp nb ≤ valL zs := by
    rw [hv, hval, Nat.mul_add, Nat.mul_assoc]
    omega
  have h6 : t * gl ys nb * Bp nb < (gl zs nb + 1) * Bp nb := by
    rw [Nat.add_mul]
    omega
  have h7 := Nat.lt_of_mul_lt_mul_right h6
  have h8 : 250000000 ≤ t * gl ys nb := by
    rw [Nat.add_mul] at ht2
    rw [Nat.mul_add] at ht2
    rcases Nat.lt_or_ge (gl ys nb + 1) 500000000 with h9 | h9
    · have : t * 1 ≤ t * gl ys nb := Nat.mul_le_mul_left _ (by omega)
      omega
    · have : 1 * gl ys nb ≤ t * gl ys nb := Nat.mul_le_mul_right _ htp
      omega
  omega

/-- Ahead of the first step what stands above the quotient's places is below the divisor. -/
theorem dv_first {xs ys left0 zs : List Nat} {mq nb t : Nat} (hx : Small xs) (hxl : xs.length + 1 = mq + (nb + 1)) (hy : Norm ys) (hyl : ys.length = nb + 1) (htp : 0 < t) (hl : left0.length = mq + (nb + 1)) (hv : valL left0 = t * valL xs) (hz : valL zs = t * valL ys) :
    hiV (gl left0) mq left0.length < valL zs := by
  have h1 : valL left0 = sumTo (gl left0) mq + Bp mq * hiV (gl left0) mq left0.length := by
    unfold valL hiV
    rw [hl, Nat.add_sub_cancel_left, ← sumTo_split]
  have h2 := valL_lt hx
  have h3 := hy.ge (by intro e; rw [e] at hyl; simp at hyl)
  rw [hyl, Nat.add_sub_cancel] at h3
  rw [show xs.length = mq + nb from by omega, Bp_add] at h2
  have h4 : t * valL xs < t * (Bp mq * Bp nb) := Nat.mul_lt_mul_of_pos_left h2 htp
  have h5 : t * Bp nb ≤ t * valL ys := Nat.mul_le_mul_left _ h3
  have h6 : Bp mq * hiV (gl left0) mq left0.length < Bp mq * valL zs := by
    rw [hz]
    have h7 : Bp mq * (t * Bp nb) ≤ Bp mq * (t * valL ys) := Nat.mul_le_mul_left _ h5
    have h8 : t * (Bp mq * Bp nb) = Bp mq * (t * Bp nb) := by rw [← Nat.mul_assoc, Nat.mul_comm t, Nat.mul_assoc]
    omega
  exact Nat.lt_of_mul_lt_mul_left h6
end Go.Proofs.YtcekdidefomkfaaDoor
