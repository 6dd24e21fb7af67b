/- Whether fractions are short, and good: the document's words over a row of them. -/
import Derived.Test.YtagfndkfjbbpjaaGreatDoorAllRefQ3
namespace Go.Proofs.YtagfndkfjbbpjaaGreatDoor
open Go.RowKit
def Rats (w : World) (b o n : Nat) (f : Nat → ByteArray × ByteArray) : Prop := ∀ j, j < n → w.cell? ⟨b, o + j * 2, none⟩ = some (.string (f j).1) ∧ w.cell? ⟨b, o + j * 2 + 1, none⟩ = some (.string (f j).2)
def shQ (p : ByteArray × ByteArray) : Bool := decide (p.1.size ≤ 100) && decide (p.2.size ≤ 100)
def allQ (g : Nat → Bool) : Nat → Bool
 | 0 => true
 | n + 1 => allQ g n && g n
theorem allQ_true {g : Nat → Bool} {n : Nat} (h : ∀ j, j < n → g j = true) : allQ g n = true := by
 induction n with
 | zero => rfl
 | succ n ih => rw [allQ, ih (fun j hj => h j (by omega)), h n (by omega)]; rfl
theorem allQ_false {g : Nat → Bool} {n j : Nat} (hj : j < n) (h : g j = false) : allQ g n = false := by
 induction n with
 | zero => omega
 | succ n ih =>
  rw [allQ]
  by_cases e : j = n
  ·subst e; rw [h, Bool.and_false]
  ·rw [ih (by omega)]; rfl
set_option maxHeartbeats 400000 in
theorem qshort_any (w : World) (b o n c : Nat) (f : Nat → ByteArray × ByteArray) (hn : n ≤ 1000) (hc : n ≤ c) (h : Rats w b o n f) :
  Calls Tryz.prog 31 #[.slice (some ⟨b, o, none⟩) n c] w fun e w' => e = .returned (.bool (allQ (fun j => shQ (f j)) n)) ∧ w = w' := by
 have HS := Lib.hid h; clear h
 go_enter Tryz.func31, Tryz.ntmps31
 go_wp2
 go_loop [3] (fun i => ∃ k : Nat, k ≤ n ∧ i = .int .i64 k ∧ Hid (∀ j, j < k → shQ (f j) = true)) (fun i => n - (intOf i).toNat)
 case atStart => exact ⟨0, Nat.zero_le _, rfl, fun j h => absurd h (Nat.not_lt_zero j)⟩
 case round =>
  obtain ⟨k, hk, rfl, HJ⟩ := hrel
  by_cases hlt : k < n
  ·obtain ⟨hc0, hc1⟩ := HS.out k hlt
   by_cases hb : (f k).1.size ≤ 100
   ·have hb' : ¬ (100 : Int) < ((f k).1.size : Int) := by omega
    by_cases hd : (f k).2.size ≤ 100
    ·have hd' : ¬ (100 : Int) < ((f k).2.size : Int) := by omega
     have HB : Hid (shQ (f k) = true) := Lib.hid (by unfold shQ; rw [decide_eq_true hb, decide_eq_true hd]; rfl)
     clear hb hd
     go_wp2
     go_round
     case rel => exact ⟨k + 1, hlt, by go_num, fun j h => by
      by_cases e : j = k
      ·subst e; exact HB.out
      ·exact HJ.out j (by omega)⟩
     case measure => simp [intOf]; omega
    ·have hd' : (100 : Int) < ((f k).2.size : Int) := by omega
     have hr : allQ (fun j => shQ (f j)) n = false := allQ_false hlt (by show shQ (f k) = false; unfold shQ; rw [decide_eq_false hd, Bool.and_false])
     have HR := Lib.hid hr; clear hb hd hr
     go_wp2
     go_ret
     exact ⟨ret_bool (by rw [HR.out]), rfl⟩
   ·have hb' : (100 : Int) < ((f k).1.size : Int) := by omega
    have hr : allQ (fun j => shQ (f j)) n = false := allQ_false hlt (by show shQ (f k) = false; unfold shQ; rw [decide_eq_false hb]; rfl)
    have HR := Lib.hid hr; clear hb hr
    go_wp2
    go_ret
    exact ⟨ret_bool (by rw [HR.out]), rfl⟩
  ·obtain rfl : k = n := by omega
   have hr : allQ (fun j => shQ (f j)) k = true := allQ_true HJ.out
   have HR := Lib.hid hr; clear hr
   go_wp2
   go_ret
   exact ⟨ret_bool (by rw [HR.out]), rfl⟩
theorem allQ_one (g : Nat → Bool) : allQ g 1 = g 0 := by unfold allQ; exact Bool.true_and _
def p2 (a b : ByteArray × ByteArray) (j : Nat) : ByteArray × ByteArray := if j = 0 then a else b
def p3 (a b c : ByteArray × ByteArray) (j : Nat) : ByteArray × ByteArray := if j = 0 then a else if j = 1 then b else c
theorem rats1 (w : World) (a : ByteArray × ByteArray) (t : TypeId) : Rats (w.alloc (.cells #[.string a.1, .string a.2] t)) w.heap.size 0 1 (fun _ => a) := fun j hj => by
 obtain rfl : j = 0 := by omega
 exact ⟨cell_new _ _ _ _ rfl 0, cell_new _ _ _ _ rfl 1⟩
theorem rats2 (w : World) (a b : ByteArray × ByteArray) (t : TypeId) : Rats (w.alloc (.cells #[.string a.1, .string a.2, .string b.1, .string b.2] t)) w.heap.size 0 2 (p2 a b) := fun j hj => by
 match j, hj with
 | 0, _ => exact ⟨cell_new _ _ _ _ rfl 0, cell_new _ _ _ _ rfl 1⟩
 | 1, _ => exact ⟨cell_new _ _ _ _ rfl 2, cell_new _ _ _ _ rfl 3⟩
end Go.Proofs.YtagfndkfjbbpjaaGreatDoor
