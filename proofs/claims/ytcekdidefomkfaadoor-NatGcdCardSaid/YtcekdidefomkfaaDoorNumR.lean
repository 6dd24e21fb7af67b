/- Plain numbers: digits into limbs, nine at a time, from behind. Own work; no program text. -/
import Derived.Test.YtcekdidefomkfaaDoorNumA
import Derived.Test.YtcekdidefomkfaaDoorNumS
namespace Go.Proofs.YtcekdidefomkfaaDoor

theorem all_drop {l : List UInt8} (h : l.all isDig = true) (n : Nat) : (l.drop n).all isDig = true := by
  rw [List.all_eq_true] at h ⊢
  exact fun c hc => h c (List.mem_of_mem_drop hc)
theorem all_take {l : List UInt8} (h : l.all isDig = true) (n : Nat) : (l.take n).all isDig = true := by
  rw [List.all_eq_true] at h ⊢
  exact fun c hc => h c (List.mem_of_mem_take hc)
theorem valS_lt9 {l : List UInt8} (h : l.all isDig = true) (hl : l.length ≤ 9) : valS l < 1000000000 :=
  Nat.lt_of_lt_of_le (valS_lt h) (Nat.le_trans (Nat.pow_le_pow_right (by decide) hl) (by decide))
theorem pow_nine (k : Nat) : 10 ^ (9 * k) = Bp k := by unfold Bp; rw [Nat.pow_mul]

/-- k limbs are read. -/
def RdRel (l : List UInt8) (n : Nat) (zs : List Nat) (k : Nat) : Prop :=
  zs.length = n ∧ Small zs ∧ sumTo (gl zs) k = valS (l.drop (l.length - 9 * k)) ∧ ∀ j, k ≤ j → gl zs j = 0
theorem RdRel.start (l : List UInt8) (n : Nat) : RdRel l n (List.replicate n 0) 0 :=
  ⟨List.length_replicate, Small.zeros n, by rw [Nat.mul_zero, Nat.sub_zero, List.drop_length]; rfl, fun j _ => gl_zeros n j⟩
theorem RdRel.step {l : List UInt8} {n : Nat} {zs : List Nat} {k lo m : Nat} (h : RdRel l n zs k) (hd : l.all isDig = true) (hk : k < n) (hlo : lo = l.length - (9 * k + 9)) (hm : m = l.length - 9 * k - lo) (hkl : 9 * k ≤ l.length) :
    RdRel l n (zs.set k (valS ((l.drop lo).take m))) (k + 1) := by
  obtain ⟨h1, h2, h3, h4⟩ := h
  have hx : valS ((l.drop lo).take m) < 1000000000 := valS_lt9 (all_take (all_drop hd _) _) (by rw [List.length_take]; omega)
  refine ⟨by rw [List.length_set, h1], h2.set hx, ?_, fun j hj => ?_⟩
  · rw [sumTo, sumTo_set (Nat.le_refl k), gl_set_same (by omega), h3]
    have e1 : l.drop (l.length - 9 * (k + 1)) = (l.drop lo).take m ++ l.drop (l.length - 9 * k) := by
      have e2 : l.length - 9 * (k + 1) = lo := by omega
      have e3 : l.drop (l.length - 9 * k) = (l.drop lo).drop m := by rw [List.drop_drop]; congr 1; omega
      rw [e2, e3, List.take_append_drop]
    rw [e1, valS_append, List.length_drop, show l.length - (l.length - 9 * k) = 9 * k from by omega, pow_nine]
    omega
  · rw [gl_set_other (by omega)]
    exact h4 j (by omega)
theorem RdRel.done {l : List UInt8} {n : Nat} {zs : List Nat} (h : RdRel l n zs n) (hn : l.length ≤ 9 * n) : zs.length = n ∧ Small zs ∧ valL zs = valS l := by
  obtain ⟨h1, h2, h3, _⟩ := h
  refine ⟨h1, h2, ?_⟩
  rw [show l.length - 9 * n = 0 from by omega, List.drop_zero] at h3
  unfold valL
  rw [h1, h3]

/-- The byte at a place. -/
def gb (l : List UInt8) (j : Nat) : UInt8 := l[j]?.getD 0
theorem gb_dig {l : List UInt8} (h : l.all isDig = true) {j : Nat} (hj : j < l.length) : 48 ≤ (gb l j).toNat ∧ (gb l j).toNat ≤ 57 := by
  unfold gb
  rw [List.getElem?_eq_getElem hj]
  rw [List.all_eq_true] at h
  have := h _ (List.getElem_mem hj)
  unfold isDig at this
  simpa using this
theorem valS_take_succ (l : List UInt8) {lo m j : Nat} (hj : j < m) (hl : lo + j < l.length) : valS (((l.drop lo).take m).take (j + 1)) = valS (((l.drop lo).take m).take j) * 10 + ((gb l (lo + j)).toNat - 48) := by
  have h1 : ((l.drop lo).take m)[j]? = some (gb l (lo + j)) := by
    rw [List.getElem?_take, if_pos hj, List.getElem?_drop]
    unfold gb
    rw [List.getElem?_eq_getElem hl]
    rfl
  rw [List.take_add_one, h1, Option.toList_some, valS_snoc, Nat.mul_comm]
end Go.Proofs.YtcekdidefomkfaaDoor
