/- Plain numbers: one limb of a product added, or taken away, at a time. Own work; no program text. -/
import Derived.Test.YtcekdidefomkfaaDoorNum
namespace Go.Proofs.YtcekdidefomkfaaDoor

theorem dm (n : Nat) : n % 1000000000 + 1000000000 * (n / 1000000000) = n := Nat.mod_add_div _ _
theorem mod_b (n : Nat) : n % 1000000000 < 1000000000 := Nat.mod_lt _ (by decide)

theorem cast_mod (n : Nat) : ((n % 1000000000 : Nat) : Int) = (n : Int) % 1000000000 := by omega
theorem cast_div (n : Nat) : ((n / 1000000000 : Nat) : Int) = (n : Int) / 1000000000 := by omega

/-- k limbs of 'xs and t times ys' stand in zs; cy is carried. -/
def AddRel (xs ys : List Nat) (t : Nat) (zs : List Nat) (k cy : Nat) : Prop :=
  zs.length = xs.length ∧ Small zs ∧ cy ≤ t ∧ sumTo (gl zs) k + cy * Bp k = sumTo (gl xs) k + t * sumTo (gl ys) k ∧ ∀ j, k ≤ j → gl zs j = gl xs j
theorem AddRel.start {xs : List Nat} (ys : List Nat) (t : Nat) (h : Small xs) : AddRel xs ys t xs 0 0 := ⟨rfl, h, by omega, by simp [sumTo], fun _ _ => rfl⟩
theorem AddRel.lt {xs ys : List Nat} {t : Nat} {zs : List Nat} {k cy : Nat} (h : AddRel xs ys t zs k cy) (hy : Small ys) : gl ys k * t ≤ 999999999 * t ∧ gl zs k ≤ 999999999 ∧ cy ≤ t := by
  have h1 := hy.gl k
  have h2 := h.2.1.gl k
  exact ⟨Nat.mul_le_mul_right _ (by omega), by omega, h.2.2.1⟩
theorem AddRel.step {xs ys : List Nat} {t : Nat} {zs : List Nat} {k cy : Nat} (h : AddRel xs ys t zs k cy) (hy : Small ys) (hk : k < xs.length) :
    AddRel xs ys t (zs.set k ((gl zs k + gl ys k * t + cy) % 1000000000)) (k + 1) ((gl zs k + gl ys k * t + cy) / 1000000000) := by
  obtain ⟨b1, b2, b3⟩ := h.lt hy
  obtain ⟨h1, h2, h3, h4, h5⟩ := h
  obtain ⟨A, hA⟩ : ∃ A, gl zs k + gl ys k * t + cy = A := ⟨_, rfl⟩
  rw [hA]
  refine ⟨by rw [List.length_set]; exact h1, h2.set (mod_b _), by omega, ?_, fun j hj => ?_⟩
  · rw [sumTo, sumTo, sumTo, sumTo_set (Nat.le_refl k), gl_set_same (by omega), Bp_succ, Nat.mul_add, ← Nat.add_assoc]
    have e1 : A % 1000000000 * Bp k + A / 1000000000 * (1000000000 * Bp k) = A * Bp k := by
      rw [← Nat.mul_assoc, ← Nat.add_mul]
      congr 1
      have := dm A
      omega
    have e2 : A * Bp k = gl xs k * Bp k + t * (gl ys k * Bp k) + cy * Bp k := by
      rw [← hA, ← h5 k (Nat.le_refl k), Nat.add_mul, Nat.add_mul, Nat.mul_comm (gl ys k) t, Nat.mul_assoc]
    omega
  · rw [gl_set_other (by omega), h5 j (by omega)]
theorem AddRel.done {xs ys : List Nat} {t : Nat} {zs : List Nat} {n cy : Nat} (h : AddRel xs ys t zs n cy) (hx : xs.length = n) (hy : ys.length = n) :
    zs.length = n ∧ Small zs ∧ cy ≤ t ∧ valL zs + cy * Bp n = valL xs + t * valL ys := by
  obtain ⟨h1, h2, h3, h4, _⟩ := h
  refine ⟨by omega, h2, h3, ?_⟩
  unfold valL
  rw [h1, hx, hy]
  exact h4

/-- k limbs of 'xs less t times ys' stand in zs; bw is borrowed. -/
def TakeRel (xs ys : List Nat) (t : Nat) (zs : List Nat) (k bw : Nat) : Prop :=
  zs.length = xs.length ∧ Small zs ∧ bw ≤ t + 1 ∧ sumTo (gl zs) k + t * sumTo (gl ys) k = sumTo (gl xs) k + bw * Bp k ∧ ∀ j, k ≤ j → gl zs j = gl xs j
theorem TakeRel.start {xs : List Nat} (ys : List Nat) (t : Nat) (h : Small xs) : TakeRel xs ys t xs 0 0 := ⟨rfl, h, by omega, by simp [sumTo], fun _ _ => rfl⟩
theorem TakeRel.lt {xs ys : List Nat} {t : Nat} {zs : List Nat} {k bw : Nat} (h : TakeRel xs ys t zs k bw) (hy : Small ys) : gl ys k * t ≤ 999999999 * t ∧ gl zs k ≤ 999999999 ∧ bw ≤ t + 1 := by
  have h1 := hy.gl k
  have h2 := h.2.1.gl k
  exact ⟨Nat.mul_le_mul_right _ (by omega), by omega, h.2.2.1⟩
theorem TakeRel.step {xs ys : List Nat} {t : Nat} {zs : List Nat} {k bw z c : Nat} (h : TakeRel xs ys t zs k bw) (hy : Small ys) (hk : k < xs.length) (hz : z < 1000000000)
    (he : z + (gl ys k * t + bw) = gl zs k + 1000000000 * c) : TakeRel xs ys t (zs.set k z) (k + 1) c := by
  obtain ⟨b1, b2, b3⟩ := h.lt hy
  obtain ⟨h1, h2, h3, h4, h5⟩ := h
  refine ⟨by rw [List.length_set]; exact h1, h2.set hz, by omega, ?_, fun j hj => ?_⟩
  · rw [sumTo, sumTo, sumTo, sumTo_set (Nat.le_refl k), gl_set_same (by omega), Bp_succ, Nat.mul_add, ← h5 k (Nat.le_refl k)]
    have e1 : (z + (gl ys k * t + bw)) * Bp k = (gl zs k + 1000000000 * c) * Bp k := by rw [he]
    rw [Nat.add_mul, Nat.add_mul, Nat.add_mul, Nat.mul_comm (gl ys k) t, Nat.mul_assoc t] at e1
    have e2 : c * (1000000000 * Bp k) = 1000000000 * c * Bp k := by rw [← Nat.mul_assoc, Nat.mul_comm c]
    omega
  · rw [gl_set_other (by omega), h5 j (by omega)]
theorem TakeRel.done {xs ys : List Nat} {t : Nat} {zs : List Nat} {n bw : Nat} (h : TakeRel xs ys t zs n bw) (hx : xs.length = n) (hy : ys.length = n) :
    zs.length = n ∧ Small zs ∧ bw ≤ t + 1 ∧ valL zs + t * valL ys = valL xs + bw * Bp n := by
  obtain ⟨h1, h2, h3, h4, _⟩ := h
  refine ⟨by omega, h2, h3, ?_⟩
  unfold valL
  rw [h1, hx, hy]
  exact h4

/-- k limbs of 'xs and ys together' stand in zs; cy is carried. -/
def SumRel (xs ys : List Nat) (n : Nat) (zs : List Nat) (k cy : Nat) : Prop :=
  zs.length = n ∧ Small zs ∧ cy ≤ 1 ∧ sumTo (gl zs) k + cy * Bp k = sumTo (gl xs) k + sumTo (gl ys) k
theorem SumRel.start (xs ys : List Nat) (n : Nat) : SumRel xs ys n (List.replicate n 0) 0 0 := ⟨List.length_replicate, Small.zeros n, by omega, by simp [sumTo]⟩
theorem SumRel.step {xs ys : List Nat} {n : Nat} {zs : List Nat} {k cy : Nat} (h : SumRel xs ys n zs k cy) (hx : Small xs) (hy : Small ys) (hk : k < n) :
    SumRel xs ys n (zs.set k ((gl xs k + gl ys k + cy) % 1000000000)) (k + 1) ((gl xs k + gl ys k + cy) / 1000000000) := by
  obtain ⟨h1, h2, h3, h4⟩ := h
  have b1 := hx.gl k
  have b2 := hy.gl k
  obtain ⟨A, hA⟩ : ∃ A, gl xs k + gl ys k + cy = A := ⟨_, rfl⟩
  rw [hA]
  refine ⟨by rw [List.length_set]; exact h1, h2.set (mod_b _), by omega, ?_⟩
  rw [sumTo, sumTo, sumTo, sumTo_set (Nat.le_refl k), gl_set_same (by omega), Bp_succ]
  have e1 : A % 1000000000 * Bp k + A / 1000000000 * (1000000000 * Bp k) = A * Bp k := by
    rw [← Nat.mul_assoc, ← Nat.add_mul]
    congr 1
    have := dm A
    omega
  have e2 : A * Bp k = gl xs k * Bp k + gl ys k * Bp k + cy * Bp k := by rw [← hA, Nat.add_mul, Nat.add_mul]
  omega
theorem SumRel.done {xs ys : List Nat} {m : Nat} {zs : List Nat} {cy : Nat} (h : SumRel xs ys (m + 1) zs (m + 1) cy) (hx : Small xs) (hy : Small ys) (h1 : xs.length ≤ m) (h2 : ys.length ≤ m) :
    zs.length = m + 1 ∧ Small zs ∧ valL zs = valL xs + valL ys := by
  obtain ⟨l1, l2, l3, l4⟩ := h
  rw [valL_to (xs := zs) (by omega), valL_to (xs := xs) (by omega), valL_to (xs := ys) (by omega), Bp_succ] at l4
  have b1 : valL xs < Bp m := Nat.lt_of_lt_of_le (valL_lt hx) (Bp_mono h1)
  have b2 : valL ys < Bp m := Nat.lt_of_lt_of_le (valL_lt hy) (Bp_mono h2)
  refine ⟨l1, l2, ?_⟩
  rcases Nat.eq_zero_or_pos cy with rfl | hc
  · omega
  · obtain rfl : cy = 1 := by omega
    omega

/-- k limbs of 'xs less ys' stand in zs; bw is borrowed. -/
def DiffRel (xs ys : List Nat) (n : Nat) (zs : List Nat) (k bw : Nat) : Prop :=
  zs.length = n ∧ Small zs ∧ bw ≤ 1 ∧ sumTo (gl zs) k + sumTo (gl ys) k + bw * Bp k = sumTo (gl xs) k + 2 * bw * Bp k
theorem DiffRel.start (xs ys : List Nat) (n : Nat) : DiffRel xs ys n (List.replicate n 0) 0 0 := ⟨List.length_replicate, Small.zeros n, by omega, by simp [sumTo]⟩
theorem DiffRel.step {xs ys : List Nat} {n : Nat} {zs : List Nat} {k bw : Nat} (h : DiffRel xs ys n zs k bw) (hx : Small xs) (hy : Small ys) (hk : k < n) :
    DiffRel xs ys n (zs.set k ((gl xs k + 1000000000 - gl ys k - bw) % 1000000000)) (k + 1) (1 - (gl xs k + 1000000000 - gl ys k - bw) / 1000000000) := by
  obtain ⟨h1, h2, h3, h4⟩ := h
  have b1 := hx.gl k
  have b2 := hy.gl k
  obtain ⟨A, hA⟩ : ∃ A, gl xs k + 1000000000 - gl ys k - bw = A := ⟨_, rfl⟩
  rw [hA]
  refine ⟨by rw [List.length_set]; exact h1, h2.set (mod_b _), by omega, ?_⟩
  rw [sumTo, sumTo, sumTo, sumTo_set (Nat.le_refl k), gl_set_same (by omega), Bp_succ]
  have hq : A / 1000000000 = 0 ∨ A / 1000000000 = 1 := by omega
  have e2 : (A + gl ys k + bw) * Bp k = (gl xs k + 1000000000) * Bp k := by congr 1; omega
  rw [Nat.add_mul, Nat.add_mul, Nat.add_mul] at e2
  have e3 : 2 * bw * Bp k = 2 * (bw * Bp k) := Nat.mul_assoc _ _ _
  rcases hq with hq | hq
  · rw [hq, show A % 1000000000 = A from by omega]
    omega
  · rw [hq]
    have e1 : A % 1000000000 * Bp k + 1000000000 * Bp k = A * Bp k := by rw [← Nat.add_mul]; congr 1; omega
    omega
theorem DiffRel.done {xs ys : List Nat} {n : Nat} {zs : List Nat} {bw : Nat} (h : DiffRel xs ys n zs n bw) (h1 : xs.length ≤ n) (h2 : ys.length ≤ n) (hle : valL ys ≤ valL xs) :
    zs.length = n ∧ Small zs ∧ valL zs = valL xs - valL ys := by
  obtain ⟨l1, l2, l3, l4⟩ := h
  rw [valL_to (xs := zs) (by omega), valL_to (xs := xs) (by omega), valL_to (xs := ys) (by omega)] at l4
  have hz := valL_lt l2
  rw [l1] at hz
  refine ⟨l1, l2, ?_⟩
  rcases Nat.eq_zero_or_pos bw with rfl | hc
  · omega
  · obtain rfl : bw = 1 := by omega
    omega

/-- ws laid over zs from place k on. -/
def splice (zs : List Nat) (k : Nat) (ws : List Nat) : List Nat := zs.take k ++ ws ++ zs.drop (k + ws.length)
def window (zs : List Nat) (k n : Nat) : List Nat := (zs.drop k).take n
theorem window_length {zs : List Nat} {k n : Nat} (h : k + n ≤ zs.length) : (window zs k n).length = n := by
  unfold window; rw [List.length_take, List.length_drop]; omega
theorem gl_window {zs : List Nat} {k n j : Nat} (h : j < n) : gl (window zs k n) j = gl zs (k + j) := by
  unfold window; rw [gl_take h, gl_drop]
theorem Small.window {zs : List Nat} (h : Small zs) (k n : Nat) : Small (window zs k n) := (h.drop k).take n
theorem splice_length {zs ws : List Nat} {k : Nat} (h : k + ws.length ≤ zs.length) : (splice zs k ws).length = zs.length := by
  unfold splice; rw [List.length_append, List.length_append, List.length_take, List.length_drop]; omega
theorem gl_splice {zs ws : List Nat} {k : Nat} (h : k + ws.length ≤ zs.length) (j : Nat) :
    gl (splice zs k ws) j = if j < k then gl zs j else if j < k + ws.length then gl ws (j - k) else gl zs j := by
  unfold splice gl
  have h1 : (zs.take k).length = k := by rw [List.length_take]; omega
  by_cases hj : j < k
  · rw [if_pos hj, List.append_assoc, List.getElem?_append_left (by omega), List.getElem?_take, if_pos hj]
  · rw [if_neg hj]
    by_cases hj2 : j < k + ws.length
    · rw [if_pos hj2, List.append_assoc, List.getElem?_append_right (by omega), h1, List.getElem?_append_left (by omega)]
    · rw [if_neg hj2, List.getElem?_append_right (by rw [List.length_append]; omega), List.length_append, h1, List.getElem?_drop]
      congr 2
      omega
theorem Small.splice {zs ws : List Nat} (h : Small zs) (hw : Small ws) (k : Nat) : Small (splice zs k ws) := fun x hx => by
  unfold Go.Proofs.YtcekdidefomkfaaDoor.splice at hx
  rcases List.mem_append.1 hx with h1 | h1
  · rcases List.mem_append.1 h1 with h2 | h2
    · exact h _ (List.mem_of_mem_take h2)
    · exact hw _ h2
  · exact h _ (List.mem_of_mem_drop h1)

/-- The worth of a row: what lies below place k, n places from there, and what lies beyond. -/
theorem valL_parts {zs : List Nat} {k n : Nat} (h : k + n ≤ zs.length) :
    valL zs = sumTo (gl zs) k + Bp k * valL (window zs k n) + Bp (k + n) * sumTo (fun j => gl zs (k + n + j)) (zs.length - (k + n)) := by
  unfold valL
  rw [window_length h]
  obtain ⟨d, hd⟩ := Nat.exists_eq_add_of_le h
  rw [hd, Nat.add_sub_cancel_left, sumTo_split, sumTo_split]
  rw [sumTo_congr (f := fun j => gl zs (k + j)) (g := gl (window zs k n)) (fun j hj => (gl_window hj).symm)]

/-- k limbs of xs times ys stand in zs. -/
def ProdRel (xs ys : List Nat) (n : Nat) (zs : List Nat) (k : Nat) : Prop :=
  zs.length = n ∧ Small zs ∧ valL zs = sumTo (gl xs) k * valL ys ∧ ∀ j, k + ys.length ≤ j → gl zs j = 0
theorem ProdRel.start (xs ys : List Nat) (n : Nat) : ProdRel xs ys n (List.replicate n 0) 0 :=
  ⟨List.length_replicate, Small.zeros n, by rw [show valL (List.replicate n 0) = 0 from sumTo_zero (fun j _ => gl_zeros n j)]; simp [sumTo], fun j _ => gl_zeros n j⟩
theorem ProdRel.step {xs ys : List Nat} {n : Nat} {zs : List Nat} {k cy : Nat} {ws : List Nat} (h : ProdRel xs ys n zs k) (hx : Small xs) (hk : k + ys.length < n)
    (hl : ws.length = ys.length) (hs : Small ws) (hc : cy ≤ gl xs k) (he : valL ws + cy * Bp ys.length = valL (window zs k ys.length) + gl xs k * valL ys) :
    ProdRel xs ys n ((splice zs k ws).set (k + ys.length) cy) (k + 1) := by
  obtain ⟨h1, h2, h3, h4⟩ := h
  have b1 := hx.gl k
  have l1 : (splice zs k ws).length = n := by rw [splice_length (by omega), h1]
  have g1 := gl_splice (zs := zs) (ws := ws) (k := k) (by omega)
  refine ⟨by rw [List.length_set, l1], (h2.splice hs k).set (by omega), ?_, fun j hj => ?_⟩
  · rw [valL_parts (k := k) (n := ys.length) (by rw [List.length_set, l1]; omega)]
    rw [valL_parts (zs := zs) (k := k) (n := ys.length) (by omega)] at h3
    have hz : sumTo (fun j => gl zs (k + ys.length + j)) (zs.length - (k + ys.length)) = 0 := sumTo_zero (fun j _ => h4 _ (by omega))
    rw [hz] at h3
    have e1 : sumTo (gl ((splice zs k ws).set (k + ys.length) cy)) k = sumTo (gl zs) k := sumTo_congr (fun j hj => by rw [gl_set_other (by omega), g1, if_pos hj])
    have e2 : valL (window ((splice zs k ws).set (k + ys.length) cy) k ys.length) = valL ws := by
      unfold valL
      rw [window_length (by rw [List.length_set, l1]; omega), hl]
      refine sumTo_congr (fun j hj => ?_)
      rw [gl_window hj, gl_set_other (by omega), g1, if_neg (by omega), if_pos (by omega)]
      congr 1
      omega
    have e3 : sumTo (fun j => gl ((splice zs k ws).set (k + ys.length) cy) (k + ys.length + j)) (((splice zs k ws).set (k + ys.length) cy).length - (k + ys.length)) = cy := by
      rw [List.length_set, l1]
      rw [sumTo_more (n := 1) (by omega) (fun j hj => ?_)]
      · simp [sumTo, Bp_zero]
        exact gl_set_same (by omega)
      · rw [gl_set_other (by omega), g1, if_neg (by omega), if_neg (by omega)]
        exact h4 _ (by omega)
    have e4 : Bp k * (valL ws + cy * Bp ys.length) = Bp k * (valL (window zs k ys.length) + gl xs k * valL ys) := by rw [he]
    rw [Nat.mul_add, Nat.mul_add] at e4
    have e5 : Bp (k + ys.length) * cy = Bp k * (cy * Bp ys.length) := by rw [Bp_add, Nat.mul_assoc, Nat.mul_comm cy]
    have e6 : gl xs k * Bp k * valL ys = Bp k * (gl xs k * valL ys) := by rw [Nat.mul_comm (gl xs k), Nat.mul_assoc]
    rw [Nat.mul_zero] at h3
    rw [e1, e2, e3, sumTo, Nat.add_mul, e5, e6]
    omega
  · rw [gl_set_other (by omega), g1, if_neg (by omega), if_neg (by omega)]
    exact h4 _ (by omega)
end Go.Proofs.YtcekdidefomkfaaDoor
