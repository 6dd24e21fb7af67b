/- What the library's two package variables that matter here hold, in a law's world and behind whatever only makes new memory. -/
import Derived.LaidMore
import Derived.MakeChecks
import Derived.Stop.LaidErr
import Derived.Lib.LaidTab
import Derived.Lib.ItoaNum
import Derived.WalkSmall
import Derived.Test.YtmllklfjngapiaaDoorRows
import Derived.Test.YtmllklfjngapiaaDoorAllRef
namespace Go.Proofs.YtmllklfjngapiaaDoor
open Go.RowKit Go.ChangeShapes

/-- The table of powers of ten is there. -/
def GoodT (w : World) : Prop := Lib.TabIs Tryd.prog w "internal/strconv.uint64pow10" .u64 Lib.pow10Tab
theorem var_lt {P : Program} {W : World} {n : String} {cs : Array Value} {g : Nat} (hg : P.globalNamed n = some g) (h : W.var? P n = some cs) : g < W.heap.size := by
  rcases Nat.lt_or_ge g W.heap.size with h' | h'
  · exact h'
  · unfold World.var? at h
    simp [hg, Array.getElem?_eq_none h'] at h
theorem cellsU64 : Tryd.prog.cellsOf 73 = 1 := by kernel_rfl

end Go.Proofs.YtmllklfjngapiaaDoor

/- The fixed calls at the head of each statement of layer 1, and constants. -/
namespace Go.Proofs.YtmllklfjngapiaaDoor
open Go.RowKit

theorem addS_const {a b q : List UInt8} (h : (isNat a && isNat b && isNat q && decide (valS a + valS b = valS q)) = true) : addS a b = q := by
  simp only [Bool.and_eq_true, decide_eq_true_eq] at h
  obtain ⟨⟨⟨h1, h2⟩, h3⟩, h4⟩ := h
  unfold addS; rw [h1, h2, h4]; exact dig_valS h3
theorem mulS_const {a b q : List UInt8} (h : (isNat a && isNat b && isNat q && decide (valS a * valS b = valS q)) = true) : mulS a b = q := by
  simp only [Bool.and_eq_true, decide_eq_true_eq] at h
  obtain ⟨⟨⟨h1, h2⟩, h3⟩, h4⟩ := h
  unfold mulS; rw [h1, h2, h4]; exact dig_valS h3
theorem gcdS_const {a b q : List UInt8} (h : (isNat a && isNat b && isNat q && decide (Nat.gcd (valS a) (valS b) = valS q)) = true) : gcdS a b = q := by
  simp only [Bool.and_eq_true, decide_eq_true_eq] at h
  obtain ⟨⟨⟨h1, h2⟩, h3⟩, h4⟩ := h
  unfold gcdS; rw [h1, h2, h4]; exact dig_valS h3
theorem subS_const {a b q : List UInt8} (h : (isNat a && isNat b && isNat q && decide (valS b ≤ valS a) && decide (valS a - valS b = valS q)) = true) : subS a b = (q, true) := by
  simp only [Bool.and_eq_true, decide_eq_true_eq] at h
  obtain ⟨⟨⟨⟨h1, h2⟩, h3⟩, h4⟩, h5⟩ := h
  unfold subS; rw [h1, h2, decide_eq_true h4, h5, dig_valS h3]; rfl
theorem subS_none {a b : List UInt8} (h : (isNat a && isNat b && decide (valS b ≤ valS a)) = false) : subS a b = ([], false) := by
  unfold subS; rw [h]; rfl
theorem divS_const {a b q r : List UInt8} (h : (isNat a && isNat b && isNat q && isNat r && decide (0 < valS b) && decide (valS a / valS b = valS q) && decide (valS a % valS b = valS r)) = true) : divS a b = (q, r, true) := by
  simp only [Bool.and_eq_true, decide_eq_true_eq] at h
  obtain ⟨⟨⟨⟨⟨⟨h1, h2⟩, h3⟩, h4⟩, h5⟩, h6⟩, h7⟩ := h
  unfold divS; rw [h1, h2, decide_eq_true h5, h6, h7, dig_valS h3, dig_valS h4]; rfl
theorem divS_none {a b : List UInt8} (h : (isNat a && isNat b && decide (0 < valS b)) = false) : divS a b = ([], [], false) := by
  unfold divS; rw [h]; rfl
/-- A call's answer, and nothing that was there has turned. -/
def GiveB (w : World) (b : Bool) (e : Ending) (w' : World) : Prop := e = .returned (.bool b) ∧ Below w.heap.size w w'
theorem Below.more {u v w : World} (h : Below u.heap.size u v) (k : Below v.heap.size v w) : Below u.heap.size u w := h.trans (k.mono h.size)

theorem fx9 (w : World) : Calls Tryd.prog 42 #[.string ⟨#[49, 50]⟩, .string ⟨#[49, 56]⟩] w (GiveS w [54]) := by
  have h := gcd_any ⟨#[49, 50]⟩ ⟨#[49, 56]⟩ w (by decide) (by decide)
  rw [show gcdS ((⟨#[49, 50]⟩ : ByteArray)).data.toList ((⟨#[49, 56]⟩ : ByteArray)).data.toList = [54] from gcdS_const (by decide)] at h
  exact h
theorem fx10 (w : World) : Calls Tryd.prog 42 #[.string ⟨#[48]⟩, .string ⟨#[53]⟩] w (GiveS w [53]) := by
  have h := gcd_any ⟨#[48]⟩ ⟨#[53]⟩ w (by decide) (by decide)
  rw [show gcdS ((⟨#[48]⟩ : ByteArray)).data.toList ((⟨#[53]⟩ : ByteArray)).data.toList = [53] from gcdS_const (by decide)] at h
  exact h
theorem fx12 (w : World) : Calls Tryd.prog 51 #[.string ⟨#[48]⟩] w fun e w' => e = .returned (.bool true) ∧ w = w' := by
  have h := may_any ⟨#[48]⟩ w (by decide)
  rw [show isNat ((⟨#[48]⟩ : ByteArray)).data.toList = true from by decide] at h
  exact h
theorem fx13 (w : World) : Calls Tryd.prog 51 #[.string ⟨#[48, 49]⟩] w fun e w' => e = .returned (.bool false) ∧ w = w' := by
  have h := may_any ⟨#[48, 49]⟩ w (by decide)
  rw [show isNat ((⟨#[48, 49]⟩ : ByteArray)).data.toList = false from by decide] at h
  exact h

end Go.Proofs.YtmllklfjngapiaaDoor

/- nat's calls on the digits of numbers. -/
namespace Go.Proofs.YtmllklfjngapiaaDoor
open Go.RowKit

/-- A number of at most k digits, and k is not too great. -/
structure Lt (a k : Nat) : Prop where
  lt : a < 10 ^ k
  pos : 0 < k
  le : k ≤ 900000
theorem Lt.len {a k : Nat} (h : Lt a k) : (dig a).length ≤ 900000 := Nat.le_trans (dig_length h.pos h.lt) h.le
theorem Lt.size {a k : Nat} (h : Lt a k) : (⟨(dig a).toArray⟩ : ByteArray).size ≤ 900000 := by rw [size_dig]; exact h.len
theorem Lt.add {a b j k : Nat} (ha : Lt a j) (hb : Lt b k) (h : j + k + 1 ≤ 900000) : Lt (a + b) (j + k + 1) := ⟨add_lt ha.lt hb.lt, Nat.succ_pos _, h⟩
theorem Lt.mul {a b j k : Nat} (ha : Lt a j) (hb : Lt b k) (h : j + k ≤ 900000) : Lt (a * b) (j + k) := ⟨mul_lt ha.lt hb.lt, Nat.add_pos_left ha.pos _, h⟩
theorem Lt.mono {a b k : Nat} (ha : Lt a k) (h : b ≤ a) : Lt b k := ⟨Nat.lt_of_le_of_lt h ha.lt, ha.pos, ha.le⟩
theorem Lt.of_text {s : ByteArray} {k : Nat} (h : isNat s.data.toList = true) (hs : s.size ≤ k) (h0 : 0 < k) (hk : k ≤ 900000) : Lt (valS s.data.toList) k :=
  ⟨Nat.lt_of_lt_of_le (nat_lt h) (Nat.pow_le_pow_right (by decide) hs), h0, hk⟩

section
variable {a b j k : Nat}
theorem nGcd {x : Nat} (ha : Lt a j) (hb : Lt b k) (h : Nat.gcd a b = x) (w : World) :
    Calls Tryd.prog 42 #[.string ⟨(dig a).toArray⟩, .string ⟨(dig b).toArray⟩] w (GiveS w (dig x)) := by
  have c := gcd_any ⟨(dig a).toArray⟩ ⟨(dig b).toArray⟩ w (Nat.le_trans ha.size (by decide)) (Nat.le_trans hb.size (by decide))
  have e : gcdS (⟨(dig a).toArray⟩ : ByteArray).data.toList (⟨(dig b).toArray⟩ : ByteArray).data.toList = dig x := by
    show gcdS (dig a) (dig b) = _
    unfold gcdS; rw [isNat_dig, isNat_dig, valS_dig, valS_dig, h]; rfl
  rw [e] at c; exact c
theorem nMay (ha : Lt a j) (w : World) :
    Calls Tryd.prog 36 #[.string ⟨(dig a).toArray⟩] w fun e w' => e = .returned (.bool true) ∧ w = w' := by
  have c := rmay_any ⟨(dig a).toArray⟩ w (Nat.le_trans ha.size (by decide))
  have e : isNat (⟨(dig a).toArray⟩ : ByteArray).data.toList = true := isNat_dig a
  rw [e] at c; exact c
end
theorem cmpN_eq (a : Nat) : cmpN a a = 0 := by unfold cmpN; simp
theorem cmpN_gt {m n : Nat} (h : n < m) : cmpN m n = 1 := by unfold cmpN; rw [if_neg (by omega), if_neg (by omega)]
theorem dig_inj {m n : Nat} (h : dig m = dig n) : m = n := by rw [← valS_dig m, h, valS_dig]
theorem dig_beq {m n : Nat} (h : m ≠ n) : (dig m == dig n) = false := beq_false_of_ne (fun e => h (dig_inj e))
theorem dig_neq {m n : Nat} (h : m ≠ n) : ¬ dig m = dig n := fun e => h (dig_inj e)
theorem dig_0 : dig 0 = [48] := by rw [dig_small (by decide)]; rfl
theorem dig_1 : dig 1 = [49] := by rw [dig_small (by decide)]; rfl
theorem dig_e (n : Nat) : (dig n).isEmpty = false := by rw [List.isEmpty_eq_false_iff]; exact dig_ne n
theorem dig_eB (n : Nat) : (dig n == []) = false := beq_false_of_ne (dig_ne n)

def two (s t : ByteArray) (j : Nat) : ByteArray := if j = 0 then s else t
theorem strs_two (w : World) (s t : ByteArray) (ty : TypeId) : Strs (w.alloc (.cells #[.string s, .string t] ty)) w.heap.size 2 (two s t) := fun j hj => by
  rw [cell_of_row _ _ _ _ _ _ (World.alloc_heap_new w _)]
  match j, hj with
  | 0, _ => rfl
  | 1, _ => rfl
theorem short_two {s t : ByteArray} (h : s.size ≤ 200 ∧ t.size ≤ 200) : shortF (two s t) 2 = true := shortF_true (fun j hj => by
  match j, hj with
  | 0, _ => exact h.1
  | 1, _ => exact h.2)
theorem long_two {s t : ByteArray} (h : ¬ (s.size ≤ 200 ∧ t.size ≤ 200)) : shortF (two s t) 2 = false := by
  by_cases h1 : s.size ≤ 200
  · exact shortF_false (j := 1) (by decide) (by show 200 < t.size; omega)
  · exact shortF_false (j := 0) (by decide) (by show 200 < s.size; omega)

/-- Three texts. -/
def three (s t u : ByteArray) (j : Nat) : ByteArray := if j = 0 then s else if j = 1 then t else u
theorem strs_three (w : World) (s t u : ByteArray) (ty : TypeId) : Strs (w.alloc (.cells #[.string s, .string t, .string u] ty)) w.heap.size 3 (three s t u) := fun j hj => by
  rw [cell_of_row _ _ _ _ _ _ (World.alloc_heap_new w _)]
  match j, hj with
  | 0, _ => rfl
  | 1, _ => rfl
  | 2, _ => rfl
theorem short_three {s t u : ByteArray} (h : s.size ≤ 200 ∧ t.size ≤ 200 ∧ u.size ≤ 200) : shortF (three s t u) 3 = true := shortF_true (fun j hj => by
  match j, hj with
  | 0, _ => exact h.1
  | 1, _ => exact h.2.1
  | 2, _ => exact h.2.2)
theorem long_three {s t u : ByteArray} (h : ¬ (s.size ≤ 200 ∧ t.size ≤ 200 ∧ u.size ≤ 200)) : shortF (three s t u) 3 = false := by
  by_cases h1 : s.size ≤ 200
  · by_cases h2 : t.size ≤ 200
    · exact shortF_false (j := 2) (by decide) (by show 200 < u.size; omega)
    · exact shortF_false (j := 1) (by decide) (by show 200 < t.size; omega)
  · exact shortF_false (j := 0) (by decide) (by show 200 < s.size; omega)
end Go.Proofs.YtmllklfjngapiaaDoor
