/- Plain numbers: a row divided by one limb, from behind. Own work; no program text. -/
import Derived.Test.YtcekdidefomkfaaDoorNumA
namespace Go.Proofs.YtcekdidefomkfaaDoor

/-- The limbs from m on, as a number of their own. -/
def hiV (f : Nat → Nat) (m n : Nat) : Nat := sumTo (fun j => f (m + j)) (n - m)
theorem hiV_end (f : Nat → Nat) (n : Nat) : hiV f n n = 0 := by unfold hiV; rw [Nat.sub_self]; rfl
theorem hiV_step (f : Nat → Nat) {m n : Nat} (h : m < n) : hiV f m n = f m + 1000000000 * hiV f (m + 1) n := by
  unfold hiV
  rw [show n - m = 1 + (n - (m + 1)) from by omega, sumTo_split]
  simp only [sumTo, Bp_zero, Nat.zero_add, Nat.add_zero, Nat.mul_one, Bp_succ]
  congr 2
  exact sumTo_congr (fun j _ => by rw [Nat.add_assoc])
theorem hiV_zero (f : Nat → Nat) (n : Nat) : hiV f 0 n = sumTo f n := by
  unfold hiV; rw [Nat.sub_zero]; exact sumTo_congr (fun j _ => by rw [Nat.zero_add])
theorem hiV_congr {f g : Nat → Nat} {m n : Nat} (h : ∀ j, m ≤ j → j < n → f j = g j) : hiV f m n = hiV g m n := by
  unfold hiV; exact sumTo_congr (fun j hj => h _ (by omega) (by omega))

/-- One limb more is divided: what is left, and the row of quotients. -/
def unStep (t : Nat) (s : Nat × List Nat) (p : Nat × Nat) : Nat × List Nat := ((s.1 * 1000000000 + p.2) % t, s.2.set p.1 ((s.1 * 1000000000 + p.2) / t))
def unSt (t n : Nat) (pre : List (Nat × Nat)) : Nat × List Nat := pre.foldl (unStep t) (0, List.replicate n 0)
theorem unSt_snoc (t n : Nat) (pre : List (Nat × Nat)) (p : Nat × Nat) : unSt t n (pre ++ [p]) = unStep t (unSt t n pre) p := by unfold unSt; rw [List.foldl_append]; rfl
theorem unStep_ok {t n : Nat} {s : Nat × List Nat} {p : Nat × Nat} (ht : 0 < t) (h1 : s.1 < t) (h2 : Small s.2) (h3 : s.2.length = n) (hp : p.2 < 1000000000) :
    (unStep t s p).1 < t ∧ Small (unStep t s p).2 ∧ (unStep t s p).2.length = n := by
  refine ⟨Nat.mod_lt _ ht, h2.set ?_, by unfold unStep; rw [List.length_set]; exact h3⟩
  rw [Nat.div_lt_iff_lt_mul ht]
  have : (s.1 + 1) * 1000000000 ≤ t * 1000000000 := Nat.mul_le_mul_right _ h1
  omega
theorem unSt_ok {t n : Nat} (ht : 0 < t) : ∀ (k : Nat) (pre : List (Nat × Nat)), pre.length = k → (∀ p ∈ pre, p.2 < 1000000000) → (unSt t n pre).1 < t ∧ Small (unSt t n pre).2 ∧ (unSt t n pre).2.length = n := by
  intro k
  induction k with
  | zero =>
    intro pre hl _
    rw [List.length_eq_zero_iff.1 hl]
    exact ⟨ht, Small.zeros n, List.length_replicate⟩
  | succ k ih =>
    intro pre hl hp
    obtain ⟨ini, last, rfl⟩ : ∃ ini last, pre = ini ++ [last] := ⟨pre.dropLast, pre.getLast (by intro e; rw [e] at hl; simp at hl), (List.dropLast_concat_getLast _).symm⟩
    rw [unSt_snoc]
    obtain ⟨a, b, c⟩ := ih ini (by simpa using hl) (fun p h => hp p (List.mem_append_left _ h))
    exact unStep_ok ht a b c (hp last (by simp))
/-- When the places have come from n - 1 down, k of them. -/
theorem unSt_val {t n : Nat} {f : Nat → Nat} (ht : 0 < t) (hf : ∀ j, f j < 1000000000) : ∀ (k : Nat) (pre : List (Nat × Nat)), k ≤ n → pre.map (·.1) = (List.range k).map (fun j => n - 1 - j) → (∀ p ∈ pre, p.2 = f p.1) →
    hiV (gl (unSt t n pre).2) (n - k) n * t + (unSt t n pre).1 = hiV f (n - k) n := by
  intro k
  induction k with
  | zero =>
    intro pre _ hm _
    obtain rfl : pre = [] := by simpa using hm
    rw [Nat.sub_zero, hiV_end, hiV_end]
    simp [unSt]
  | succ k ih =>
    intro pre hk hm hp
    have hne : pre ≠ [] := by intro e; rw [e] at hm; simp at hm
    obtain ⟨ini, last, rfl⟩ : ∃ ini last, pre = ini ++ [last] := ⟨pre.dropLast, pre.getLast hne, (List.dropLast_concat_getLast _).symm⟩
    rw [List.range_succ, List.map_append, List.map_append] at hm
    obtain ⟨hm1, hm2⟩ := List.append_inj' hm rfl
    have hi : last.1 = n - 1 - k := by simpa using hm2
    have hv := hp last (by simp)
    have h := ih ini (by omega) hm1 (fun p h => hp p (List.mem_append_left _ h))
    have hlen : ini.length = k := by have := congrArg List.length hm1; simpa using this
    obtain ⟨o1, o2, o3⟩ := unSt_ok (n := n) ht ini.length ini rfl (fun p h => by rw [hp p (List.mem_append_left _ h)]; exact hf _)
    have e1 : n - k = n - (k + 1) + 1 := by omega
    have e2 : last.1 = n - (k + 1) := by omega
    rw [unSt_snoc]
    unfold unStep
    rw [hv, e2]
    generalize unSt t n ini = s at *
    rw [hiV_step _ (show n - (k + 1) < n from by omega), hiV_step f (show n - (k + 1) < n from by omega), ← e1]
    simp only
    rw [gl_set_same (by rw [o3]; omega)]
    rw [hiV_congr (g := gl s.2) (m := n - k) (fun j h1 h2 => gl_set_other (by omega)), ← h]
    obtain ⟨A, hA⟩ : ∃ A, s.1 * 1000000000 + f (n - (k + 1)) = A := ⟨_, rfl⟩
    rw [hA]
    have h9 := Nat.mod_add_div A t
    rw [Nat.mul_comm] at h9
    rw [Nat.add_mul, Nat.mul_assoc, Nat.mul_add]
    omega
theorem unSt_done {t n : Nat} {f : Nat → Nat} (ht : 0 < t) (hf : ∀ j, f j < 1000000000) {pre : List (Nat × Nat)} (hm : pre.map (·.1) = (List.range n).map (fun j => n - 1 - j)) (hp : ∀ p ∈ pre, p.2 = f p.1) :
    valL (unSt t n pre).2 = sumTo f n / t := by
  have h := unSt_val ht hf n pre (Nat.le_refl _) hm hp
  obtain ⟨o1, o2, o3⟩ := unSt_ok (n := n) ht pre.length pre rfl (fun p h => by rw [hp p h]; exact hf _)
  rw [Nat.sub_self, hiV_zero, hiV_zero] at h
  unfold valL
  rw [o3, ← h, Nat.add_comm, Nat.add_mul_div_right _ _ ht, Nat.div_eq_of_lt o1, Nat.zero_add]
end Go.Proofs.YtcekdidefomkfaaDoor
