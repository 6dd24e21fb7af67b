/- Whether fractions are short, and good: the document's words over a row of them. -/
import Derived.Test.YtmllklfjngapiaaDoorAllRefQ3
namespace Go.Proofs.YtmllklfjngapiaaDoor
open Go.RowKit

/-- A row of n fractions from a place on. -/
def Rats (w : World) (b o n : Nat) (f : Nat → ByteArray × ByteArray) : Prop := ∀ j, j < n → w.cell? ⟨b, o + j * 2, none⟩ = some (.string (f j).1) ∧ w.cell? ⟨b, o + j * 2 + 1, none⟩ = some (.string (f j).2)
def shQ (p : ByteArray × ByteArray) : Bool := decide (p.1.size ≤ 100) && decide (p.2.size ≤ 100)
def allQ (g : Nat → Bool) : Nat → Bool
  | 0 => true
  | n + 1 => allQ g n && g n
theorem allQ_true {g : Nat → Bool} {n : Nat} (h : ∀ j, j < n → g j = true) : allQ g n = true := by
  induction n with
  | zero => rfl
  | succ n ih => rw [allQ, ih (fun j hj => h j (by omega)), h n (by omega)]; rfl
theorem allQ_false {g : Nat → Bool} {n j : Nat} (hj : j < n) (h : g j = false) : allQ g n = false := by
  induction n with
  | zero => omega
  | succ n ih =>
    rw [allQ]
    by_cases e : j = n
    · subst e; rw [h, Bool.and_false]
    · rw [ih (by omega)]; rfl

def gdQ (p : ByteArray × ByteArray) : Bool := shQ p && isR (p.1.data.toList, p.2.data.toList)
theorem Rats.below {w w' : World} {b o n B : Nat} {f : Nat → ByteArray × ByteArray} (h : Rats w b o n f) (hb : Below B w w') (hB : b < B) : Rats w' b o n f := fun j hj =>
  ⟨(hb.cell (p := ⟨b, _, none⟩) hB).trans (h j hj).1, (hb.cell (p := ⟨b, _, none⟩) hB).trans (h j hj).2⟩
theorem Rats.one {w : World} {b o n k : Nat} {f : Nat → ByteArray × ByteArray} (h : Rats w b o n f) (hk : k < n) : Rats w b (o + k * 2) 1 (fun _ => f k) := fun j hj => by
  obtain rfl : j = 0 := by omega
  exact h k hk
theorem allQ_one (g : Nat → Bool) : allQ g 1 = g 0 := by unfold allQ; exact Bool.true_and _

/-- Rows that a law lays. -/
def p2 (a b : ByteArray × ByteArray) (j : Nat) : ByteArray × ByteArray := if j = 0 then a else b
def p3 (a b c : ByteArray × ByteArray) (j : Nat) : ByteArray × ByteArray := if j = 0 then a else if j = 1 then b else c
theorem rats1 (w : World) (a : ByteArray × ByteArray) (t : TypeId) : Rats (w.alloc (.cells #[.string a.1, .string a.2] t)) w.heap.size 0 1 (fun _ => a) := fun j hj => by
  obtain rfl : j = 0 := by omega
  exact ⟨cell_new _ _ _ _ rfl 0, cell_new _ _ _ _ rfl 1⟩
theorem rats2 (w : World) (a b : ByteArray × ByteArray) (t : TypeId) : Rats (w.alloc (.cells #[.string a.1, .string a.2, .string b.1, .string b.2] t)) w.heap.size 0 2 (p2 a b) := fun j hj => by
  match j, hj with
  | 0, _ => exact ⟨cell_new _ _ _ _ rfl 0, cell_new _ _ _ _ rfl 1⟩
  | 1, _ => exact ⟨cell_new _ _ _ _ rfl 2, cell_new _ _ _ _ rfl 3⟩
theorem rats3 (w : World) (a b c : ByteArray × ByteArray) (t : TypeId) : Rats (w.alloc (.cells #[.string a.1, .string a.2, .string b.1, .string b.2, .string c.1, .string c.2] t)) w.heap.size 0 3 (p3 a b c) := fun j hj => by
  match j, hj with
  | 0, _ => exact ⟨cell_new _ _ _ _ rfl 0, cell_new _ _ _ _ rfl 1⟩
  | 1, _ => exact ⟨cell_new _ _ _ _ rfl 2, cell_new _ _ _ _ rfl 3⟩
  | 2, _ => exact ⟨cell_new _ _ _ _ rfl 4, cell_new _ _ _ _ rfl 5⟩
theorem lt_new (w : World) (x : Obj) : w.heap.size < (w.alloc x).heap.size := by simp
end Go.Proofs.YtmllklfjngapiaaDoor
