/- nat's calls on texts: Cmp, Sub, Div. -/
import Derived.Test.YtcekdidefomkfaaDoorApi
import Derived.Test.YtcekdidefomkfaaDoorNumC
namespace Go.Proofs.YtcekdidefomkfaaDoor
open Go.RowKit

def cmpS (l r : List UInt8) : Int := if isNat l && isNat r then cmpN (valS l) (valS r) else 0

set_option maxRecDepth 100000 in
set_option maxHeartbeats 400000 in
theorem cmp_any (s t : ByteArray) (w : World) (hs : s.size ≤ 1000000000) (ht : t.size ≤ 1000000000) :
    Calls Tryd.prog 28 #[.string s, .string t] w fun e w' => e = .returned (.int .i64 (cmpS s.data.toList t.data.toList)) ∧ w = w' := by
  have c1 := fun w => may_any s w (by omega)
  have c2 := fun w => may_any t w (by omega)
  cases h1 : isNat s.data.toList with
  | false =>
    have hr : cmpS s.data.toList t.data.toList = 0 := by unfold cmpS; rw [h1]; rfl
    rw [hr]
    simp only [h1] at c1
    clear hr h1 c2
    go_enter Tryd.func28, Tryd.ntmps28
    go_wp2_with fail
    refine (c1 _).mono ?_
    rintro e w' ⟨rfl, rfl⟩
    go_wp2_with fail
    go_ret
    exact ⟨rfl, rfl⟩
  | true => cases h2 : isNat t.data.toList with
    | false =>
      have hr : cmpS s.data.toList t.data.toList = 0 := by unfold cmpS; rw [h1, h2]; rfl
      rw [hr]
      simp only [h1] at c1
      simp only [h2] at c2
      clear hr h1 h2
      go_enter Tryd.func28, Tryd.ntmps28
      go_wp2_with fail
      refine (c1 _).mono ?_
      rintro e w' ⟨rfl, rfl⟩
      go_wp2_with fail
      refine (c2 _).mono ?_
      rintro e w' ⟨rfl, rfl⟩
      go_wp2_with fail
      go_ret
      exact ⟨rfl, rfl⟩
    | true =>
      have hr : cmpS s.data.toList t.data.toList = cmpN (valS s.data.toList) (valS t.data.toList) := by unfold cmpS; rw [h1, h2]; rfl
      rw [hr]
      have q1 : s.size < t.size → cmpN (valS s.data.toList) (valS t.data.toList) = -1 := fun h => by
        unfold cmpN; rw [if_pos (shorter_lt h1 h2 h)]
      have q2 : t.size < s.size → cmpN (valS s.data.toList) (valS t.data.toList) = 1 := fun h => by
        have := shorter_lt h2 h1 h
        unfold cmpN; rw [if_neg (by omega), if_neg (by omega)]
      have q3 : s.size = t.size → Lib.compareBytes s.data.toList t.data.toList = cmpN (valS s.data.toList) (valS t.data.toList) := fun h => compare_same (isNat_all h1) (isNat_all h2) h
      simp only [h1] at c1
      simp only [h2] at c2
      clear hr h1 h2
      generalize cmpN (valS s.data.toList) (valS t.data.toList) = z at *
      rcases (by omega : s.size < t.size ∨ t.size < s.size ∨ s.size = t.size) with h | h | h
      · obtain rfl := q1 h
        clear q1 q2 q3
        go_enter Tryd.func28, Tryd.ntmps28
        go_wp2_with fail
        refine (c1 _).mono ?_
        rintro e w' ⟨rfl, rfl⟩
        go_wp2_with fail
        refine (c2 _).mono ?_
        rintro e w' ⟨rfl, rfl⟩
        go_wp2_with fail
        go_ret
        exact ⟨rfl, rfl⟩
      · obtain rfl := q2 h
        clear q1 q2 q3
        have h' : ¬ s.size < t.size := by omega
        go_enter Tryd.func28, Tryd.ntmps28
        go_wp2_with fail
        refine (c1 _).mono ?_
        rintro e w' ⟨rfl, rfl⟩
        go_wp2_with fail
        refine (c2 _).mono ?_
        rintro e w' ⟨rfl, rfl⟩
        go_wp2_with fail
        go_ret
        exact ⟨rfl, rfl⟩
      · have hz := q3 h
        have c3 := fun w => Tryd.strings_Compare s t w
        rw [hz] at c3
        clear q1 q2 q3 hz
        have h' : ¬ s.size < t.size := by omega
        have h'' : ¬ t.size < s.size := by omega
        clear h
        go_enter Tryd.func28, Tryd.ntmps28
        go_wp2_with fail
        refine (c1 _).mono ?_
        rintro e w' ⟨rfl, rfl⟩
        go_wp2_with fail
        refine (c2 _).mono ?_
        rintro e w' ⟨rfl, rfl⟩
        go_wp2_with fail
        refine (c3 _).mono ?_
        rintro e w' ⟨rfl, rfl⟩
        go_wp2_with fail
        go_ret
        exact ⟨rfl, rfl⟩
/-- A text, and whether there is one. -/
def GiveSB (w : World) (x : List UInt8 × Bool) (e : Ending) (w' : World) : Prop := e = .returned (.tuple #[.string ⟨x.1.toArray⟩, .bool x.2]) ∧ Below w.heap.size w w'
def subS (l r : List UInt8) : List UInt8 × Bool := if (isNat l && isNat r) && decide (valS r ≤ valS l) then (dig (valS l - valS r), true) else ([], false)
/-- Two texts, and whether there are. -/
def GiveSSB (w : World) (x : List UInt8 × List UInt8 × Bool) (e : Ending) (w' : World) : Prop := e = .returned (.tuple #[.string ⟨x.1.toArray⟩, .string ⟨x.2.1.toArray⟩, .bool x.2.2]) ∧ Below w.heap.size w w'
def divS (l r : List UInt8) : List UInt8 × List UInt8 × Bool := if (isNat l && isNat r) && decide (0 < valS r) then (dig (valS l / valS r), dig (valS l % valS r), true) else ([], [], false)
theorem nat_zero {l : List UInt8} (h : isNat l = true) (h0 : valS l = 0) : l = [48] := by
  have := dig_valS h
  rw [h0, dig_small (by omega)] at this
  exact this.symm
theorem cmpS_nat {l r : List UInt8} (h1 : isNat l = true) (h2 : isNat r = true) : cmpS l r = cmpN (valS l) (valS r) := by unfold cmpS; rw [h1, h2]; rfl

set_option maxRecDepth 100000 in
set_option maxHeartbeats 400000 in
theorem sub_any (s t : ByteArray) (w : World) (hs : s.size ≤ 1000000000) (ht : t.size ≤ 1000000000) :
    Calls Tryd.prog 18 #[.string s, .string t] w (GiveSB w (subS s.data.toList t.data.toList)) := by
  have c1 := fun w => may_any s w (by omega)
  have c2 := fun w => may_any t w (by omega)
  have c3 := fun w => cmp_any s t w hs ht
  cases h1 : isNat s.data.toList with
  | false =>
    have hr : subS s.data.toList t.data.toList = ([], false) := by unfold subS; rw [h1]; rfl
    rw [hr]
    simp only [h1] at c1
    clear hr h1 c2 c3
    go_enter Tryd.func18, Tryd.ntmps18
    go_wp2_with fail
    refine (c1 _).mono ?_
    rintro e w' ⟨rfl, rfl⟩
    go_wp2_with fail
    go_ret2
    exact ⟨rfl, Below.refl _ _⟩
  | true => cases h2 : isNat t.data.toList with
    | false =>
      have hr : subS s.data.toList t.data.toList = ([], false) := by unfold subS; rw [h1, h2]; rfl
      rw [hr]
      simp only [h1] at c1
      simp only [h2] at c2
      clear hr h1 h2 c3
      go_enter Tryd.func18, Tryd.ntmps18
      go_wp2_with fail
      refine (c1 _).mono ?_
      rintro e w' ⟨rfl, rfl⟩
      go_wp2_with fail
      refine (c2 _).mono ?_
      rintro e w' ⟨rfl, rfl⟩
      go_wp2_with fail
      go_ret2
      exact ⟨rfl, Below.refl _ _⟩
    | true =>
      rw [cmpS_nat h1 h2] at c3
      by_cases hlt : valS s.data.toList < valS t.data.toList
      · have hr : subS s.data.toList t.data.toList = ([], false) := by
          unfold subS; rw [h1, h2]
          have : decide (valS t.data.toList ≤ valS s.data.toList) = false := by simp; omega
          rw [this]; rfl
        rw [hr]
        have hz : cmpN (valS s.data.toList) (valS t.data.toList) = -1 := by unfold cmpN; rw [if_pos hlt]
        rw [hz] at c3
        simp only [h1] at c1
        simp only [h2] at c2
        clear hr h1 h2 hz hlt
        go_enter Tryd.func18, Tryd.ntmps18
        go_wp2_with fail
        refine (c1 _).mono ?_
        rintro e w' ⟨rfl, rfl⟩
        go_wp2_with fail
        refine (c2 _).mono ?_
        rintro e w' ⟨rfl, rfl⟩
        go_wp2_with fail
        refine (c3 _).mono ?_
        rintro e w' ⟨rfl, rfl⟩
        go_wp2_with fail
        go_ret2
        exact ⟨rfl, Below.refl _ _⟩
      · have hle : valS t.data.toList ≤ valS s.data.toList := by omega
        have hr : subS s.data.toList t.data.toList = (dig (valS s.data.toList - valS t.data.toList), true) := by
          unfold subS; rw [h1, h2]
          have : decide (valS t.data.toList ≤ valS s.data.toList) = true := by simpa using hle
          rw [this]; rfl
        rw [hr]
        have hz : ¬ cmpN (valS s.data.toList) (valS t.data.toList) < 0 := by
          unfold cmpN; rw [if_neg hlt]; split <;> omega
        have r1 := fun w => read_any s w (by omega) (nat_size h1) (isNat_all h1)
        have r2 := fun w => read_any t w (by omega) (nat_size h2) (isNat_all h2)
        have B1 := nat_big h1 hs
        have B3 : Big (valS s.data.toList - valS t.data.toList) := B1.le (Nat.sub_le _ _)
        simp only [h1] at c1
        simp only [h2] at c2
        clear hr h1 h2 hlt
        generalize cmpN (valS s.data.toList) (valS t.data.toList) = z at *
        generalize valS s.data.toList = m at *
        generalize valS t.data.toList = n at *
        have HB := Lib.hid (And.intro B1 (And.intro hle B3))
        clear B1 B3 hle hs ht
        go_enter Tryd.func18, Tryd.ntmps18
        go_wp2_with fail
        refine (c1 _).mono ?_
        rintro e w' ⟨rfl, rfl⟩
        go_wp2_with fail
        refine (c2 _).mono ?_
        rintro e w' ⟨rfl, rfl⟩
        go_wp2_with fail
        refine (c3 _).mono ?_
        rintro e w' ⟨rfl, rfl⟩
        go_wp2_with fail
        refine (r1 _).mono ?_
        rintro e w1 ⟨v1, rfl, l1, b1⟩
        go_wp2_with fail
        refine (r2 _).mono ?_
        rintro e w2 ⟨v2, rfl, l2, b2⟩
        go_wp2_with fail
        refine (difference_any _ _ _ _ _ (l1.below b2) l2 HB.out.1 HB.out.2.1).mono ?_
        rintro e w3 ⟨v3, rfl, l3, b3⟩
        go_wp2_with fail
        refine (digits_any _ _ _ l3 HB.out.2.2).mono ?_
        rintro e w4 ⟨rfl, b4⟩
        go_wp2_with fail
        go_ret2
        have b12 := b1.trans (b2.mono b1.size)
        have b123 := b12.trans (b3.mono b12.size)
        exact ⟨rfl, b123.trans (b4.mono b123.size)⟩
end Go.Proofs.YtcekdidefomkfaaDoor
