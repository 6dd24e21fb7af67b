/- nat.May, nat.read. -/
import Derived.Test.YtcckifhloabpkaaDoorRows
import Derived.Test.YtcckifhloabpkaaDoorAllLimb
namespace Go.Proofs.YtcckifhloabpkaaDoor
open Go.RowKit

theorem ret_bool {a b : Bool} (h : a = b) : Ending.returned (.bool a) = .returned (.bool b) := by rw [h]

theorem size_toList (s : ByteArray) : s.data.toList.length = s.size := rfl
theorem byte_at (s : ByteArray) (k : Nat) (h : k < s.size) : s.data.toList[k]? = some s[k] := by
  rw [List.getElem?_eq_getElem (by rw [size_toList]; exact h)]; rfl
theorem toList_empty (s : ByteArray) : s.toList.isEmpty = decide (s.size = 0) := by
  rw [ByteArray.toList_eq, ← size_toList]
  cases s.data.toList with
  | nil => rfl
  | cons c r => simp

/-- What makes a text no natural, and what makes it one. -/
theorem isNat_empty {s : ByteArray} (h : s.size = 0) : isNat s.data.toList = false := by
  have : s.data.toList = [] := List.length_eq_zero_iff.1 h
  rw [this]; rfl
theorem isNat_lead {s : ByteArray} (h0 : 0 < s.size) (h : s[0].toNat = 48) (h1 : 1 < s.size) : isNat s.data.toList = false := by
  unfold isNat
  have hh : s.data.toList.head? = some 48 := by
    rw [List.head?_eq_getElem?, byte_at s 0 h0]
    exact congrArg some (UInt8.toNat_inj.1 h)
  have hl : 1 < s.data.toList.length := h1
  have e2 : decide (1 < s.data.toList.length) = true := decide_eq_true hl
  rw [hh, e2]
  simp
theorem isNat_bad {s : ByteArray} {k : Nat} (hk : k < s.size) (h : s[k].toNat < 48 ∨ 57 < s[k].toNat) : isNat s.data.toList = false := by
  unfold isNat
  have : s.data.toList.all isDig = false := by
    rw [List.all_eq_false]
    refine ⟨s[k], List.mem_of_getElem? (byte_at s k hk), ?_⟩
    unfold isDig
    simp only [Bool.and_eq_true, decide_eq_true_eq]
    omega
  rw [this, Bool.and_false]
theorem isNat_good {s : ByteArray} (h0 : 0 < s.size) (h1 : ¬ (s[0].toNat = 48 ∧ 1 < s.size)) (h : ∀ k (hk : k < s.size), 48 ≤ s[k].toNat ∧ s[k].toNat ≤ 57) : isNat s.data.toList = true := by
  unfold isNat
  have ha : s.data.toList.all isDig = true := by
    rw [List.all_eq_true]
    intro c hc
    obtain ⟨k, hk, rfl⟩ := List.mem_iff_getElem.1 hc
    have := h k hk
    unfold isDig
    simp only [Bool.and_eq_true, decide_eq_true_eq]
    exact this
  have he : s.data.toList ≠ [] := by intro e; have := size_toList s; rw [e] at this; simp at this; omega
  rw [ha, Bool.and_true, Bool.and_eq_true]
  refine ⟨by simpa using he, ?_⟩
  rw [Bool.not_eq_true', Bool.and_eq_false_iff]
  by_cases hz : s[0].toNat = 48
  · refine .inr ?_
    rw [decide_eq_false_iff_not, size_toList]
    intro h2; exact h1 ⟨hz, h2⟩
  · refine .inl ?_
    rw [List.head?_eq_getElem?, byte_at s 0 h0]
    simp only [beq_eq_false_iff_ne, ne_eq, Option.some.injEq]
    intro e; rw [e] at hz; exact hz rfl

end Go.Proofs.YtcckifhloabpkaaDoor

/- nat.read: the limbs of a natural. -/
namespace Go.Proofs.YtcckifhloabpkaaDoor
open Go.RowKit

theorem bytes_new (w : World) (c : ByteArray) (cap : Nat) (t : TypeId) (fr : Nat × Nat) (j : Nat) (hj : j < c.size) :
    (w.alloc (.cells (bytesRow c cap) t fr)).drew.cell? ⟨w.heap.size, j, none⟩ = some (.int .u8 ((gb c.data.toList j).toNat : Int)) := by
  have hb : (w.alloc (.cells (bytesRow c cap) t fr)).heap[w.heap.size]? = some (.cells (bytesRow c cap) t fr) := World.alloc_heap_new w _
  have h1 : j < c.data.size := hj
  show (w.alloc (.cells (bytesRow c cap) t fr)).cell? ⟨w.heap.size, j, none⟩ = _
  rw [cell_of_row _ _ _ _ _ _ hb]
  unfold bytesRow gb
  rw [Array.getElem?_append, if_pos (by rw [Array.size_map]; exact h1), Array.getElem?_map, Array.getElem?_toList, Array.getElem?_eq_getElem h1]
  rfl
theorem gb_extract (s : ByteArray) {lo hi j : Nat} (h : lo + j < hi) (h2 : hi ≤ s.size) : gb (s.extract lo hi).data.toList j = gb s.data.toList (lo + j) := by
  unfold gb
  congr 1
  rw [ByteArray.data_extract]
  simp only [Array.getElem?_toList, Array.getElem?_extract]
  rw [if_pos (by have : s.data.size = s.size := rfl; omega)]

end Go.Proofs.YtcckifhloabpkaaDoor
