/- The document's own answer for naturals: May, at, trim, Cmp, to the same plain functions. -/
import Derived.Lib.IndexBytes
import Derived.Laws.Concat
import Derived.StillTailTactics
import Derived.Test.YtcckifhloabpkaaDoorAllNat
import Derived.Test.YtcckifhloabpkaaDoorAllNum
namespace Go.Proofs.YtcckifhloabpkaaDoor
open Go.RowKit

theorem toList_is {s : ByteArray} {l : List UInt8} (h : s.data.toList = l) : s.toList = l := (ByteArray.toList_eq s).trans h
theorem eqB_true {s : ByteArray} {l : List UInt8} (h : s.data.toList = l) : (s.toList == l) = true := by rw [toList_is h]; exact beq_self_eq_true l
theorem eqB_false {s : ByteArray} {l : List UInt8} (h : s.data.toList ≠ l) : (s.toList == l) = false := by
  rw [ByteArray.toList_eq]; exact beq_false_of_ne h
theorem eqS_false {s : ByteArray} {l : List UInt8} (h : s.data.toList ≠ l) : ¬ s.toList = l := by
  rw [ByteArray.toList_eq]; exact h
theorem gb_idx (s : ByteArray) {j : Nat} (h : j < s.size) : gb s.data.toList j = s[j] := by
  unfold gb; rw [byte_at s j h]; rfl



theorem str_drop {s : ByteArray} {k : Nat} {l : List UInt8} (h : s.data.toList.drop k = l) : s.extract k s.size = ⟨l.toArray⟩ := by
  have := Lib.extract_to_end s k
  rw [h] at this
  cases he : s.extract k s.size with
  | mk d => rw [he] at this; rw [← this]

end Go.Proofs.YtcckifhloabpkaaDoor

/- The document's own answer for naturals: Cmp, Of, Small. -/
namespace Go.Proofs.YtcckifhloabpkaaDoor
open Go.RowKit

/-- Of digits of one length, the order of texts is that of their numbers. -/
theorem less_same {l r : List UInt8} (hl : l.all isDig = true) (hr : r.all isDig = true) (h : l.length = r.length) : Op.bytesLess l r = decide (valS l < valS r) := by
  induction l generalizing r with
  | nil =>
    obtain rfl : r = [] := List.length_eq_zero_iff.1 (by simpa using h.symm)
    rfl
  | cons a l ih =>
    cases r with
    | nil => simp at h
    | cons b r =>
      rw [List.all_cons, Bool.and_eq_true] at hl hr
      have hlen : l.length = r.length := by simpa using h
      have hi := ih hl.2 hr.2 hlen
      have v1 := valS_lt hl.2
      have v2 := valS_lt hr.2
      have d1 := hl.1
      have d2 := hr.1
      unfold isDig at d1 d2
      simp only [Bool.and_eq_true, decide_eq_true_eq] at d1 d2
      rw [valS_cons, valS_cons, hlen]
      rw [hlen] at v1
      unfold Op.bytesLess
      rw [hi]
      generalize 10 ^ r.length = P at *
      have key : ∀ x y m n : Nat, x < y → m < P → x * P + m < y * P + n := fun x y m n hxy hm => by
        have : (x + 1) * P ≤ y * P := Nat.mul_le_mul_right _ hxy
        rw [Nat.add_mul, Nat.one_mul] at this
        omega
      rcases Nat.lt_trichotomy a.toNat b.toNat with h1 | h1 | h1
      · have k := key (a.toNat - 48) (b.toNat - 48) (valS l) (valS r) (by omega) v1
        have e1 : decide (a < b) = true := decide_eq_true (show a.toNat < b.toNat from h1)
        rw [e1, decide_eq_true k]; rfl
      · have e : a = b := UInt8.toNat_inj.1 h1
        subst e
        have e1 : decide (a < a) = false := decide_eq_false (fun h : a.toNat < a.toNat => Nat.lt_irrefl _ h)
        rw [e1]
        simp
      · have k := key (b.toNat - 48) (a.toNat - 48) (valS r) (valS l) (by omega) v2
        have e1 : decide (a < b) = false := decide_eq_false (fun h : a.toNat < b.toNat => by omega)
        have e2 : (a == b) = false := beq_false_of_ne (fun e => by subst e; omega)
        rw [e1, e2, decide_eq_false (p := (a.toNat - 48) * P + valS l < (b.toNat - 48) * P + valS r) (by omega)]; rfl
theorem nat_same {l r : List UInt8} (hl : isNat l = true) (hr : isNat r = true) (h : valS l = valS r) : l = r := by
  rw [← dig_valS hl, ← dig_valS hr, h]
theorem bytes_eq {s t : ByteArray} (h : s.data.toList = t.data.toList) : s = t := by
  cases s; cases t
  simp only at h
  rw [Array.toList_inj.1 h]

end Go.Proofs.YtcckifhloabpkaaDoor

/- The document's own answer for naturals: Of. -/
namespace Go.Proofs.YtcckifhloabpkaaDoor
open Go.RowKit

theorem dig_length {n k : Nat} (hk : 0 < k) (h : n < 10 ^ k) : (dig n).length ≤ k := by
  induction k generalizing n with
  | zero => omega
  | succ k ih =>
    by_cases h10 : n < 10
    · rw [dig_small h10]; simp
    · rw [dig_big h10, List.length_append, List.length_singleton]
      have hk0 : 0 < k := by
        rcases Nat.eq_zero_or_pos k with rfl | h0
        · simp at h; omega
        · exact h0
      have := ih hk0 (n := n / 10) (by rw [Nat.pow_succ] at h; omega)
      omega
theorem digs_extract {d : Nat} (h : d < 10) : ByteArray.extract ⟨#[48, 49, 50, 51, 52, 53, 54, 55, 56, 57]⟩ d (d + 1) = ⟨#[digN d]⟩ := by
  revert d
  decide
theorem ba_append (s t : ByteArray) : (s ++ t).data.toList = s.data.toList ++ t.data.toList := by
  rw [ByteArray.data_append, Array.toList_append]
theorem digN_mod (m : Nat) : digN (m % 10) = digN m := by unfold digN; rw [Nat.mod_mod]
end Go.Proofs.YtcckifhloabpkaaDoor

/- The document's own answer for naturals: Small, Add, Sub. -/
namespace Go.Proofs.YtcckifhloabpkaaDoor
open Go.RowKit

theorem valS_take_le (l : List UInt8) (k : Nat) : valS (l.take k) ≤ valS l := by
  have h := valS_append (l.take k) (l.drop k)
  rw [List.take_append_drop] at h
  have : valS (l.take k) * 1 ≤ valS (l.take k) * 10 ^ (l.drop k).length := Nat.mul_le_mul_left _ (Nat.pow_pos (by decide))
  omega
theorem valS_take_more (l : List UInt8) {k : Nat} (h : k < l.length) : valS (l.take (k + 1)) = 10 * valS (l.take k) + ((gb l k).toNat - 48) := by
  have h1 : l[k]? = some (gb l k) := by unfold gb; rw [List.getElem?_eq_getElem h]; rfl
  rw [List.take_add_one, h1, Option.toList_some, valS_snoc]
theorem ret_two {a b : Int} {c : Bool} (h : a = b) : Ending.returned (.tuple #[.int .i64 a, .bool c]) = .returned (.tuple #[.int .i64 b, .bool c]) := by rw [h]
def maxTxt : List UInt8 := [57, 50, 50, 51, 51, 55, 50, 48, 51, 54, 56, 53, 52, 55, 55, 53, 56, 48, 55]
theorem maxTxt_nat : isNat maxTxt = true := by decide
theorem maxTxt_val : valS maxTxt = 9223372036854775807 := by decide



end Go.Proofs.YtcckifhloabpkaaDoor

/- The document's own answer for naturals: Sub, Mul. -/
namespace Go.Proofs.YtcckifhloabpkaaDoor
open Go.RowKit

end Go.Proofs.YtcckifhloabpkaaDoor

/- The document's own answer for naturals: Mul. -/
namespace Go.Proofs.YtcckifhloabpkaaDoor
open Go.RowKit

/-- A row of n ints that may be written, and holds z. -/
def Ci (w : World) (b n : Nat) (z : Nat → Nat) : Prop := ∀ j, j < n → w.cell? ⟨b, j, none⟩ = some (.int .i64 ((z j : Nat) : Int)) ∧ w.frozen? ⟨b, j, none⟩ = false
theorem Ci.below {B : Nat} {w w' : World} {b n : Nat} {z : Nat → Nat} (h : Below B w w') (hb : b < B) (ha : Ci w b n z) : Ci w' b n z :=
  fun j hj => ⟨(h.cell (p := ⟨b, j, none⟩) hb).trans (ha j hj).1, (h.frozen (p := ⟨b, j, none⟩) hb).trans (ha j hj).2⟩
theorem Ci.add {w : World} {b n : Nat} {z : Nat → Nat} (h : Ci w b n z) {i : Nat} (hi : i < n) (d : Nat) : Ci (w.setCell ⟨b, i, none⟩ (.int .i64 ((z i + d : Nat) : Int))) b n (upd z i d) := fun j hj => by
  refine ⟨?_, (World.frozen?_setCell _ _ _ _).trans (h j hj).2⟩
  unfold upd
  by_cases e : j = i
  · subst e
    rw [if_pos rfl]
    exact World.cell?_setCell_same' _ _ _ (by rw [(h j hj).1]; rfl)
  · rw [if_neg e, cell?_setCell_ne _ _ _ _ _ (fun e' => e e'.symm)]
    exact (h j hj).1
structure MadeI (w w' : World) (n : Nat) : Prop where
  size : w'.heap.size = w.heap.size + 1
  row : Ci w' w.heap.size n (fun _ => 0)
  below : Below w.heap.size w w'
theorem madeI (w : World) (n t : Nat) : MadeI w (w.alloc (.cells (madeCells #[.int .i64 0] n) t)) n := by
  have hb := World.alloc_heap_new w (.cells (madeCells #[.int .i64 0] n) t)
  have hl : (madeCells #[Value.int .i64 0] n).toList = List.replicate n (.int .i64 0) := toList_madeCells_one _ _
  refine ⟨by simp, fun j hj => ⟨?_, ?_⟩, (Below.refl _ _).alloc (Nat.le_refl _) _⟩
  · rw [cell_of_row _ _ _ _ _ _ hb, ← Array.getElem?_toList, hl]
    simp [hj]
  · unfold World.frozen?
    rw [hb]
    simp
theorem info_int : (Tryd.prog.info? 3).map (fun i => (i.zero, i.size, i.bytes)) = some (some (.int .i64 0), 1, 8) := by kernel_rfl

def zr (_ : Nat) : Nat := 0
theorem dsum_zr (n : Nat) : dsum zr n = 0 := dsum_zero (fun _ _ => rfl)

end Go.Proofs.YtcckifhloabpkaaDoor

/- The document's own answer for naturals: Div, Gcd. -/
namespace Go.Proofs.YtcckifhloabpkaaDoor
open Go.RowKit

theorem dig_len_le {m n : Nat} (h : m ≤ n) : (dig m).length ≤ (dig n).length := by
  have h1 := valS_lt (dig_all n)
  rw [valS_dig] at h1
  refine dig_length (List.length_pos_iff.2 (dig_ne n)) (by omega)
theorem dig_len_more {m n : Nat} (h : m < 10 * n) : (dig m).length ≤ (dig n).length + 1 := by
  have h1 := valS_lt (dig_all n)
  rw [valS_dig] at h1
  refine dig_length (by omega) (by rw [Nat.pow_succ]; omega)
theorem dig_len {s : ByteArray} (h : isNat s.data.toList = true) : (dig (valS s.data.toList)).length = s.size := by rw [dig_valS h]; rfl
theorem size_dig (n : Nat) : (⟨(dig n).toArray⟩ : ByteArray).size = (dig n).length := by show (dig n).toArray.size = _; simp
theorem str_dig {s : ByteArray} (h : isNat s.data.toList = true) : s = ⟨(dig (valS s.data.toList)).toArray⟩ := bytes_eq (dig_valS h).symm
theorem step_div {X v d : Nat} (hv : 0 < v) : (10 * X + d) / v = 10 * (X / v) + (10 * (X % v) + d) / v ∧ (10 * X + d) % v = (10 * (X % v) + d) % v := by
  have h : 10 * X + d = v * (10 * (X / v)) + (10 * (X % v) + d) := by
    have := Nat.div_add_mod X v
    have e : v * (10 * (X / v)) = 10 * (v * (X / v)) := Nat.mul_left_comm _ _ _
    omega
  rw [h, Nat.mul_add_div hv, Nat.mul_add_mod]
  exact ⟨rfl, rfl⟩
theorem div_of {Y v d : Nat} (h1 : d * v ≤ Y) (h2 : Y - d * v < v) : Y / v = d ∧ Y % v = Y - d * v := by
  have hv : 0 < v := by omega
  have e : Y = v * d + (Y - d * v) := by rw [Nat.mul_comm v d]; omega
  constructor
  · rw [e, Nat.mul_add_div hv, Nat.div_eq_of_lt h2, Nat.add_zero]
  · conv => lhs; rw [e]
    rw [Nat.mul_add_mod, Nat.mod_eq_of_lt h2]
theorem cmpN_lt {m n : Nat} (h : m < n) : cmpN m n = -1 := by unfold cmpN; rw [if_pos h]
theorem cmpN_ge {m n : Nat} (h : n ≤ m) : 0 ≤ cmpN m n := by unfold cmpN; rw [if_neg (by omega)]; split <;> decide

end Go.Proofs.YtcckifhloabpkaaDoor

/- The document's own answer for naturals: Gcd, Short. -/
namespace Go.Proofs.YtcckifhloabpkaaDoor
open Go.RowKit

/-- The number of a text in a slot. -/
def numOf : Value → Nat
  | .string s => valS s.data.toList
  | _ => 0
theorem numOf_dig (n : Nat) : numOf (.string ⟨(dig n).toArray⟩) = n := valS_dig n
theorem dig_ne48 {n : Nat} (h : n ≠ 0) : ¬ dig n = [48] := fun e => h (by have := valS_dig n; rw [e] at this; exact this.symm)
theorem dig_neB {n : Nat} (h : n ≠ 0) : (dig n == [48]) = false := beq_false_of_ne (dig_ne48 h)


/-- A row of n texts. -/
def Strs (w : World) (b n : Nat) (f : Nat → ByteArray) : Prop := ∀ j, j < n → w.cell? ⟨b, j, none⟩ = some (.string (f j))
def shortF (f : Nat → ByteArray) : Nat → Bool
  | 0 => true
  | n + 1 => shortF f n && decide ((f n).size ≤ 200)
theorem shortF_true {f : Nat → ByteArray} {n : Nat} (h : ∀ j, j < n → (f j).size ≤ 200) : shortF f n = true := by
  induction n with
  | zero => rfl
  | succ n ih => rw [shortF, ih (fun j hj => h j (by omega)), decide_eq_true (h n (by omega))]; rfl
theorem shortF_false {f : Nat → ByteArray} {n j : Nat} (hj : j < n) (h : 200 < (f j).size) : shortF f n = false := by
  induction n with
  | zero => omega
  | succ n ih =>
    rw [shortF]
    by_cases e : j = n
    · subst e; rw [decide_eq_false (by omega), Bool.and_false]
    · rw [ih (by omega)]; rfl
end Go.Proofs.YtcckifhloabpkaaDoor
