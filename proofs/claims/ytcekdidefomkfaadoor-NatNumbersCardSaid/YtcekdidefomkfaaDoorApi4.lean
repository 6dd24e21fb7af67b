/- nat.Small, nat.Of. -/
import Derived.Lib.AtoiErrMem
import Derived.Test.YtcekdidefomkfaaDoorApi3
import Derived.Test.YtcekdidefomkfaaDoorNumI
namespace Go.Proofs.YtcekdidefomkfaaDoor
open Go.RowKit

/-- The number that a text is, and whether an int holds it. -/
def GiveIB (w : World) (x : Int × Bool) (e : Ending) (w' : World) : Prop := e = .returned (.tuple #[.int .i64 x.1, .bool x.2]) ∧ Below w.heap.size w w'
def smallS (l : List UInt8) : Int × Bool := if isNat l && decide (valS l ≤ 9223372036854775807) then ((valS l : Int), true) else (0, false)

set_option maxRecDepth 100000 in
set_option maxHeartbeats 400000 in
theorem small_any (s : ByteArray) (w : World) (hs : s.size ≤ 1000000000) (tp : TypeId) (p : Value) (hvar : w.var? Tryd.prog "strconv.ErrRange" = some #[.iface tp p]) :
    Calls Tryd.prog 22 #[.string s] w (GiveIB w (smallS s.data.toList)) := by
  have c1 := fun w => may_any s w (by omega)
  cases h1 : isNat s.data.toList with
  | false =>
    have hr : smallS s.data.toList = (0, false) := by unfold smallS; rw [h1]; rfl
    rw [hr]
    simp only [h1] at c1
    clear hr h1 hvar
    go_enter Tryd.func22, Tryd.ntmps22
    go_wp2_with fail
    refine (c1 _).mono ?_
    rintro e w' ⟨rfl, rfl⟩
    go_wp2_with fail
    go_ret2
    exact ⟨rfl, Below.refl _ _⟩
  | true =>
    have ha := atoi_nat h1
    by_cases hle : valS s.data.toList ≤ 9223372036854775807
    · have hr : smallS s.data.toList = ((valS s.data.toList : Int), true) := by
        unfold smallS
        have : decide (valS s.data.toList ≤ 9223372036854775807) = true := by simpa using hle
        rw [h1, this]; rfl
      rw [hr]
      rw [if_pos hle] at ha
      have c2 := fun w => Tryd.strconv_Atoi_ok s (by omega) _ ha w
      simp only [h1] at c1
      clear hr h1 hvar ha hle
      generalize valS s.data.toList = m at *
      go_enter Tryd.func22, Tryd.ntmps22
      go_wp2_with fail
      refine (c1 _).mono ?_
      rintro e w' ⟨rfl, rfl⟩
      go_wp2_with fail
      refine (c2 _).mono ?_
      rintro e w2 ⟨rfl, hw2⟩
      have hb : Below w.heap.size w w2 := by
        rcases hw2 with rfl | ⟨t, rfl⟩
        · exact Below.refl _ _
        · exact Lib.bytesWorld_below _ _ _
      clear hw2
      go_wp2_with fail
      go_ret2
      exact ⟨rfl, hb⟩
    · have hr : smallS s.data.toList = (0, false) := by
        unfold smallS
        have : decide (valS s.data.toList ≤ 9223372036854775807) = false := by simp; omega
        rw [h1, this]; rfl
      rw [hr]
      rw [if_neg hle] at ha
      have c2 := Tryd.strconv_Atoi_range_var s (by omega) ha tp p w hvar
      simp only [h1] at c1
      clear hr h1 hvar ha hle
      go_enter Tryd.func22, Tryd.ntmps22
      go_wp2_with fail
      refine (c1 _).mono ?_
      rintro e w' ⟨rfl, rfl⟩
      go_wp2_with fail
      refine c2.mono ?_
      rintro e w2 ⟨N, rfl, _, _, hb⟩
      go_wp2_with fail
      go_ret2
      exact ⟨rfl, hb⟩

def ofS (n : Int) : List UInt8 := if n < 0 then [] else dig n.toNat
theorem below_more {B : Nat} {a w : World} (h : Below B a w) (k : Nat) (os : Array Obj) (hB : B ≤ w.heap.size) : Below B a («Sort».grow (w.drewN k) os) := by
  refine ⟨h.os, h.tape, h.output, ?_, fun i hi => ?_⟩
  · show a.heap.size ≤ (w.heap ++ os).size
    have := h.size
    rw [Array.size_append]; omega
  · show (w.heap ++ os)[i]? = _
    rw [Array.getElem?_append_left (by omega)]
    exact h.block i hi

set_option maxHeartbeats 400000 in
theorem of_any (n : Int) (w : World) (h0 : -9223372036854775808 ≤ n) (h1 : n ≤ 9223372036854775807) (htab : Lib.TabIs Tryd.prog w "internal/strconv.uint64pow10" .u64 Lib.pow10Tab) :
    Calls Tryd.prog 26 #[.int .i64 n] w (GiveS w (ofS n)) := by
  rcases (by omega : n < 0 ∨ 0 ≤ n) with h | h
  · have hr : ofS n = [] := by unfold ofS; rw [if_pos h]
    rw [hr]
    clear hr htab
    go_enter Tryd.func26, Tryd.ntmps26
    go_wp2
    go_ret
    exact ⟨rfl, Below.refl _ _⟩
  · have hr : ofS n = Lib.itoa n := by
      unfold ofS; rw [if_neg (by omega)]
      have := itoa_dig n.toNat
      rw [Int.toNat_of_nonneg h] at this
      exact this.symm
    rw [hr]
    have c1 := Tryd.strconv_Itoa n h0 h1 w htab
    have hn : ¬ n < 0 := by omega
    clear hr htab
    generalize Lib.itoa n = l at *
    go_enter Tryd.func26, Tryd.ntmps26
    go_wp2_with fail
    refine c1.mono ?_
    rintro e w' ⟨rfl, k, os, rfl⟩
    have hb := below_more (Below.refl w.heap.size w) k os (Nat.le_refl _)
    generalize «Sort».grow (w.drewN k) os = w2 at *
    go_wp2_with fail
    go_ret
    exact ⟨rfl, hb⟩
end Go.Proofs.YtcekdidefomkfaaDoor
