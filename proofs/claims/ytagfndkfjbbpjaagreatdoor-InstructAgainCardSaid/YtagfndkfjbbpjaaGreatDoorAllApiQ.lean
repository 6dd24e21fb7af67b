/- The program's calls on fractions, said of rational numbers; constants. -/
import Derived.Test.YtagfndkfjbbpjaaGreatDoorAllRefQ4
namespace Go.Proofs.YtagfndkfjbbpjaaGreatDoor
open Go.RowKit
structure Lq (x : Rat) (k : Nat) : Prop where
 num : x.num.natAbs < 10 ^ k
 den : x.den < 10 ^ k
 le : k ≤ 10000
 pos : 0 < k
theorem Lq.len1 {x : Rat} {k : Nat} (h : Lq x k) : (rdN x).length ≤ k + 1 := Nat.le_trans (wd_length x.num) (Nat.succ_le_succ (dig_length h.pos h.num))
theorem Lq.len2 {x : Rat} {k : Nat} (h : Lq x k) : (rdD x).length ≤ k := dig_length h.pos h.den
theorem Lq.of_text {n d : ByteArray} {k : Nat} (h : isR (n.data.toList, d.data.toList) = true) (hn : n.size ≤ k) (hd : d.size ≤ k) (hk : k ≤ 10000) : Lq (valR (n.data.toList, d.data.toList)) k := by
 have h1 := isR_isW h
 have h2 := isR_isN h
 have hp : 0 < d.data.toList.length := isW_pos (l := d.data.toList) (by
  have e : d.data.toList = dig (valR (n.data.toList, d.data.toList)).den := (isR_den h).1
  rw [e]; exact isW_dig _)
 have hd' : d.data.toList.length ≤ k := hd
 have hn' : n.data.toList.length ≤ k := hn
 refine ⟨?_, ?_, hk, by omega⟩
 ·rw [valR_num h]
  exact Nat.lt_of_lt_of_le (Ltw.own h1 (by show n.data.toList.length ≤ _; omega)).abs (Nat.pow_le_pow_right (by decide) hn')
 ·rw [valR_den h]
  exact Nat.lt_of_lt_of_le (nat_lt h2) (Nat.pow_le_pow_right (by decide) hd')
section
variable {x y : Rat} {j k : Nat}
end
section
variable {x y z : Rat} {j k : Nat}
end
theorem addR_c {p q r : List UInt8 × List UInt8} (h : (isR p && isR q && isR r && decide (valR p + valR q = valR r)) = true) : addR p q = r := by
 simp only [Bool.and_eq_true, decide_eq_true_eq] at h
 unfold addR; rw [h.1.1.1, h.1.1.2, h.2]; exact rd_valR h.1.2
theorem negR_c {p r : List UInt8 × List UInt8} (h : (isR p && isR r && decide (-valR p = valR r)) = true) : negR p = r := by
 simp only [Bool.and_eq_true, decide_eq_true_eq] at h
 unfold negR; rw [h.1.1, h.2]; exact rd_valR h.1.2
theorem lay {V w : World} (h : Below V.heap.size V w) (a b : Value) (t : TypeId) : ∃ U, w.alloc (.cells #[a, b] t) = U ∧ Below V.heap.size V U ∧ w.heap.size + 1 = U.heap.size ∧
  (∀ v, Below U.heap.size U v → v.cell? ⟨w.heap.size, 0, none⟩ = some a) ∧ (∀ v, Below U.heap.size U v → v.cell? ⟨w.heap.size, 1, none⟩ = some b) :=
 ⟨_, rfl, h.alloc h.size _, by simp, fun _ k => (zc_made k).c0, fun _ k => (zc_made k).c1⟩
end Go.Proofs.YtagfndkfjbbpjaaGreatDoor
