/- Plain numbers: rows of limbs to the base 10^9, and what they are worth. Own work; no program text. -/
namespace Go.Proofs.YtcekdidefomkfaaDoor

/-- The base's powers. -/
def Bp (k : Nat) : Nat := 1000000000 ^ k
theorem Bp_zero : Bp 0 = 1 := rfl
theorem Bp_succ (k : Nat) : Bp (k + 1) = 1000000000 * Bp k := by unfold Bp; rw [Nat.pow_succ, Nat.mul_comm]
theorem Bp_pos (k : Nat) : 0 < Bp k := Nat.pow_pos (by decide)
theorem Bp_add (i j : Nat) : Bp (i + j) = Bp i * Bp j := Nat.pow_add _ _ _
theorem Bp_mono {i j : Nat} (h : i ≤ j) : Bp i ≤ Bp j := Nat.pow_le_pow_right (by decide) h

/-- f 0 + f 1 * base + .., k of them. -/
def sumTo (f : Nat → Nat) : Nat → Nat
  | 0 => 0
  | k + 1 => sumTo f k + f k * Bp k

/-- What a row of limbs is worth. -/
def gl (xs : List Nat) (j : Nat) : Nat := xs[j]?.getD 0
def valL (xs : List Nat) : Nat := sumTo (gl xs) xs.length
def Small (xs : List Nat) : Prop := ∀ x ∈ xs, x < 1000000000
def Norm (xs : List Nat) : Prop := xs ≠ [] → xs[xs.length - 1]?.getD 0 ≠ 0
/-- The most limbs that we reckon with: opaque, so that nobody counts it up. -/
def top : Nat := 1073741824
theorem top_eq : top = 1073741824 := rfl
structure Big (n : Nat) : Prop where
  lt : n < Bp top

theorem gl_eq (xs : List Nat) (j : Nat) : xs[j]?.getD 0 = gl xs j := rfl
theorem gl_beyond {xs : List Nat} {j : Nat} (h : xs.length ≤ j) : gl xs j = 0 := by unfold gl; rw [List.getElem?_eq_none h]; rfl
theorem gl_set_same {xs : List Nat} {j v : Nat} (h : j < xs.length) : gl (xs.set j v) j = v := by unfold gl; simp [h]
theorem gl_set_other {xs : List Nat} {i j v : Nat} (h : i ≠ j) : gl (xs.set i v) j = gl xs j := by unfold gl; rw [List.getElem?_set_ne h]

theorem Small.gl {xs : List Nat} (h : Small xs) (j : Nat) : gl xs j < 1000000000 := by
  unfold Go.Proofs.YtcekdidefomkfaaDoor.gl
  by_cases hj : j < xs.length
  · rw [List.getElem?_eq_getElem hj]; exact h _ (List.getElem_mem hj)
  · rw [List.getElem?_eq_none (by omega)]; decide
theorem Small.nil : Small [] := fun _ h => by cases h
theorem Small.of_gl {xs : List Nat} (h : ∀ j, j < xs.length → Go.Proofs.YtcekdidefomkfaaDoor.gl xs j < 1000000000) : Small xs := fun x hx => by
  obtain ⟨j, hj, rfl⟩ := List.mem_iff_getElem.1 hx
  have := h j hj
  unfold Go.Proofs.YtcekdidefomkfaaDoor.gl at this
  rwa [List.getElem?_eq_getElem hj] at this
theorem Small.set {xs : List Nat} (h : Small xs) {i v : Nat} (hv : v < 1000000000) : Small (xs.set i v) := fun x hx => by
  rcases List.mem_or_eq_of_mem_set hx with h1 | rfl
  · exact h _ h1
  · exact hv
theorem Small.zeros (n : Nat) : Small (List.replicate n 0) := fun x hx => by rw [List.eq_of_mem_replicate hx]; decide
theorem Small.take {xs : List Nat} (h : Small xs) (n : Nat) : Small (xs.take n) := fun _ hx => h _ (List.mem_of_mem_take hx)
theorem Small.drop {xs : List Nat} (h : Small xs) (n : Nat) : Small (xs.drop n) := fun _ hx => h _ (List.mem_of_mem_drop hx)
theorem gl_zeros (n j : Nat) : gl (List.replicate n 0) j = 0 := by
  unfold gl; by_cases h : j < n <;> simp [h]
theorem gl_take {xs : List Nat} {n j : Nat} (h : j < n) : gl (xs.take n) j = gl xs j := by unfold gl; rw [List.getElem?_take, if_pos h]
theorem gl_drop (xs : List Nat) (n j : Nat) : gl (xs.drop n) j = gl xs (n + j) := by unfold gl; rw [List.getElem?_drop]

theorem sumTo_congr {f g : Nat → Nat} {k : Nat} (h : ∀ j, j < k → f j = g j) : sumTo f k = sumTo g k := by
  induction k with
  | zero => rfl
  | succ k ih => rw [sumTo, sumTo, ih (fun j hj => h j (by omega)), h k (by omega)]
theorem sumTo_zero {f : Nat → Nat} {k : Nat} (h : ∀ j, j < k → f j = 0) : sumTo f k = 0 := by
  induction k with
  | zero => rfl
  | succ k ih => rw [sumTo, ih (fun j hj => h j (by omega)), h k (by omega)]; simp
/-- Limbs beyond n are 0: they add nothing. -/
theorem sumTo_more {f : Nat → Nat} {n k : Nat} (h : n ≤ k) (hz : ∀ j, n ≤ j → f j = 0) : sumTo f k = sumTo f n := by
  obtain ⟨d, rfl⟩ := Nat.exists_eq_add_of_le h
  clear h
  induction d with
  | zero => rfl
  | succ d ih => rw [← Nat.add_assoc, sumTo, ih, hz _ (by omega)]; simp
theorem valL_to {xs : List Nat} {k : Nat} (h : xs.length ≤ k) : sumTo (gl xs) k = valL xs := sumTo_more h (fun _ hj => gl_beyond hj)
theorem sumTo_set {xs : List Nat} {i k v : Nat} (h : k ≤ i) : sumTo (gl (xs.set i v)) k = sumTo (gl xs) k :=
  sumTo_congr (fun j hj => gl_set_other (by omega))
theorem sumTo_lt {f : Nat → Nat} {k : Nat} (h : ∀ j, j < k → f j < 1000000000) : sumTo f k < Bp k := by
  induction k with
  | zero => simp [sumTo, Bp_zero]
  | succ k ih =>
    rw [sumTo, Bp_succ]
    have h1 := ih (fun j hj => h j (by omega))
    have h2 := h k (by omega)
    have h3 : f k * Bp k ≤ 999999999 * Bp k := Nat.mul_le_mul_right _ (by omega)
    omega
theorem valL_lt {xs : List Nat} (h : Small xs) : valL xs < Bp xs.length := sumTo_lt (fun j _ => h.gl j)
theorem valL_nil : valL [] = 0 := rfl
/-- Low limbs and high ones. -/
theorem sumTo_split (f : Nat → Nat) (i k : Nat) : sumTo f (i + k) = sumTo f i + Bp i * sumTo (fun j => f (i + j)) k := by
  induction k with
  | zero => simp [sumTo]
  | succ k ih =>
    rw [← Nat.add_assoc, sumTo, ih, sumTo, Bp_add, Nat.mul_add, Nat.add_assoc]
    congr 2
    rw [Nat.mul_comm (Bp i), Nat.mul_comm (Bp i), Nat.mul_assoc]
theorem sumTo_mono (f : Nat → Nat) {i k : Nat} (h : i ≤ k) : sumTo f i ≤ sumTo f k := by
  obtain ⟨d, rfl⟩ := Nat.exists_eq_add_of_le h
  rw [sumTo_split]; exact Nat.le_add_right _ _

theorem Norm.nil : Norm [] := fun h => absurd rfl h
/-- A row that does not end in 0 is worth at least its highest limb's place. -/
theorem Norm.ge {xs : List Nat} (h : Norm xs) (hn : xs ≠ []) : Bp (xs.length - 1) ≤ valL xs := by
  have hl : 0 < xs.length := List.length_pos_iff.2 hn
  have h1 := h hn
  unfold valL
  obtain ⟨k, hk⟩ : ∃ k, xs.length = k + 1 := ⟨xs.length - 1, by omega⟩
  rw [hk, sumTo]
  rw [hk] at h1
  simp only [Nat.add_sub_cancel] at h1 ⊢
  have h2 : 1 * Bp k ≤ gl xs k * Bp k := Nat.mul_le_mul_right _ (by rw [gl_eq] at h1; omega)
  omega
theorem Norm.len_le {xs : List Nat} (h : Norm xs) {k : Nat} (hv : valL xs < Bp k) : xs.length ≤ k := by
  by_cases hn : xs = []
  · subst hn; simp
  · have h1 := h.ge hn
    rcases Nat.lt_or_ge k xs.length with h2 | h2
    · have := Bp_mono (i := k) (j := xs.length - 1) (by omega)
      omega
    · exact h2
theorem Norm.big {xs : List Nat} (h : Norm xs) (hb : Big (valL xs)) : xs.length ≤ 1073741824 := h.len_le hb.lt
theorem Norm.zero {xs : List Nat} (h : Norm xs) (hv : valL xs = 0) : xs = [] := by
  by_cases hn : xs = []
  · exact hn
  · have := h.ge hn
    have := Bp_pos (xs.length - 1)
    omega
/-- Longer is more. -/
theorem lt_of_shorter {xs ys : List Nat} (hx : Small xs) (hy : Norm ys) (h : xs.length < ys.length) : valL xs < valL ys := by
  have h1 := valL_lt hx
  have h2 := hy.ge (by intro e; rw [e] at h; simp at h)
  have := Bp_mono (i := xs.length) (j := ys.length - 1) (by omega)
  omega
end Go.Proofs.YtcekdidefomkfaaDoor
