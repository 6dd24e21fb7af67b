/- Plain rounding: to whole numbers, down, towards 0, to the nearest (of two to the even one). Own work; no program text. -/
import Derived.Test.YtnahepfnejdcgaaGreatDoorRatNum2
namespace Go.Proofs.YtnahepfnejdcgaaGreatDoor

/-- The whole number that x is rounded to by mode m. -/
def whQ (m : Nat) (x : Rat) : Int :=
  if m = 0 ∨ (x.floor : Rat) = x then x.floor
  else if m = 1 then (if x < 0 then x.floor + 1 else x.floor)
  else if (x - (x.floor : Rat)) < (((x.floor + 1 : Int) : Rat) - x) ∨ ((x - (x.floor : Rat)) = (((x.floor + 1 : Int) : Rat) - x) ∧ x.floor % 2 = 0) then x.floor else x.floor + 1
theorem cast1 (n : Int) : ((n + 1 : Int) : Rat) = (n : Rat) + 1 := by rw [Rat.intCast_add]; rfl
theorem castn (n : Int) : ((-n : Int) : Rat) = -(n : Rat) := Rat.intCast_neg n
theorem fl_le (x : Rat) : (x.floor : Rat) ≤ x := Rat.floor_le x
theorem fl_lt (x : Rat) : x < (x.floor : Rat) + 1 := by have := Rat.lt_floor_add_one x; rwa [cast1] at this
theorem cast_lt {a b : Int} : (a : Rat) < (b : Rat) ↔ a < b := Rat.intCast_lt_intCast
theorem cast_le {a b : Int} : (a : Rat) ≤ (b : Rat) ↔ a ≤ b := Rat.intCast_le_intCast
/-- The floor is the whole number that it must be. -/
theorem fl_uni {x : Rat} {n : Int} (h1 : (n : Rat) ≤ x) (h2 : x < (n : Rat) + 1) : x.floor = n := by
  have a := fl_le x
  have b := fl_lt x
  have c : (n : Rat) < ((x.floor + 1 : Int) : Rat) := by rw [cast1]; grind
  have d : (x.floor : Rat) < ((n + 1 : Int) : Rat) := by rw [cast1]; grind
  rw [cast_lt] at c d
  omega
theorem fl_int (n : Int) : (n : Rat).floor = n := fl_uni (by grind) (by grind)
theorem whQ_int (m : Nat) (n : Int) : whQ m (n : Rat) = n := by
  unfold whQ
  rw [if_pos (.inr (by rw [fl_int])), fl_int]
/-- It is the whole number below, or the one behind it; the latter only if x is none. -/
theorem whQ_ways (m : Nat) (x : Rat) : whQ m x = x.floor ∨ (whQ m x = x.floor + 1 ∧ (x.floor : Rat) < x) := by
  have h := fl_le x
  unfold whQ
  by_cases h0 : m = 0 ∨ (x.floor : Rat) = x
  · rw [if_pos h0]; exact .inl rfl
  · have h1 : (x.floor : Rat) < x := by
      have : ¬ (x.floor : Rat) = x := fun e => h0 (.inr e)
      grind
    rw [if_neg h0]
    by_cases h2 : m = 1
    · rw [if_pos h2]
      by_cases h3 : x < 0
      · rw [if_pos h3]; exact .inr ⟨rfl, h1⟩
      · rw [if_neg h3]; exact .inl rfl
    · rw [if_neg h2]
      split
      · exact .inl rfl
      · exact .inr ⟨rfl, h1⟩
/-- Less than one away. -/
theorem whQ_near (m : Nat) (x : Rat) : (whQ m x : Rat) - 1 < x ∧ x < (whQ m x : Rat) + 1 := by
  have a := fl_le x
  have b := fl_lt x
  rcases whQ_ways m x with h | ⟨h, h1⟩
  · rw [h]; constructor <;> grind
  · rw [h, cast1]; constructor <;> grind
theorem whQ_down (x : Rat) : (whQ 0 x : Rat) ≤ x := by
  have : whQ 0 x = x.floor := by unfold whQ; rw [if_pos (.inl rfl)]
  rw [this]; exact fl_le x
/-- Towards 0. -/
theorem whQ_trunc_neg {x : Rat} (h : x < 0) : x ≤ (whQ 1 x : Rat) ∧ whQ 1 x ≤ 0 := by
  have a := fl_le x
  have b := fl_lt x
  unfold whQ
  by_cases h0 : (1 : Nat) = 0 ∨ (x.floor : Rat) = x
  · rw [if_pos h0]
    have e : (x.floor : Rat) = x := by rcases h0 with h0 | h0; cases h0; exact h0
    refine ⟨by grind, ?_⟩
    have : (x.floor : Rat) < ((0 : Int) : Rat) := by rw [e]; exact h
    rw [cast_lt] at this; omega
  · rw [if_neg h0, if_pos rfl, if_pos h, cast1]
    refine ⟨by grind, ?_⟩
    have : (x.floor : Rat) < ((0 : Int) : Rat) := by show (x.floor : Rat) < 0; grind
    rw [cast_lt] at this; omega
theorem whQ_trunc_pos {x : Rat} (h : ¬ x < 0) : (whQ 1 x : Rat) ≤ x ∧ 0 ≤ whQ 1 x := by
  have a := fl_le x
  have b := fl_lt x
  have k : whQ 1 x = x.floor := by
    unfold whQ
    by_cases h0 : (1 : Nat) = 0 ∨ (x.floor : Rat) = x
    · rw [if_pos h0]
    · rw [if_neg h0, if_pos rfl, if_neg h]
  rw [k]
  refine ⟨a, ?_⟩
  have : ((-1 : Int) : Rat) < (x.floor : Rat) := by show (-1 : Rat) < (x.floor : Rat); grind
  rw [cast_lt] at this; omega
/-- By Even at most half of one away. -/
theorem whQ_even (x : Rat) : (whQ 2 x : Rat) - x ≤ 1 / 2 ∧ x - (whQ 2 x : Rat) ≤ 1 / 2 := by
  have a := fl_le x
  have b := fl_lt x
  unfold whQ
  by_cases h0 : (2 : Nat) = 0 ∨ (x.floor : Rat) = x
  · rw [if_pos h0]
    have e : (x.floor : Rat) = x := by rcases h0 with h0 | h0; cases h0; exact h0
    rw [e]; constructor <;> grind
  · rw [if_neg h0, if_neg (by decide)]
    rw [cast1]
    split
    · rename_i h
      constructor <;> (rcases h with h | ⟨h, _⟩ <;> grind)
    · rename_i h
      have h1 : ¬ (x - (x.floor : Rat)) < (((x.floor : Int) : Rat) + 1 - x) := fun e => h (.inl e)
      rw [cast1]
      constructor <;> grind
/-- Rounding does not turn an order round. -/
theorem fl_mono {x y : Rat} (h : x ≤ y) : x.floor ≤ y.floor := by
  have a := fl_le x
  have b := fl_lt y
  have : (x.floor : Rat) < ((y.floor + 1 : Int) : Rat) := by rw [cast1]; grind
  rw [cast_lt] at this; omega
theorem whQ_mono (m : Nat) {x y : Rat} (h : x ≤ y) : whQ m x ≤ whQ m y := by
  have hf := fl_mono h
  have ax := fl_le x
  have bx := fl_lt x
  have ay := fl_le y
  have by2 := fl_lt y
  rcases whQ_ways m x with hx | ⟨hx, hx1⟩
  · rcases whQ_ways m y with hy | ⟨hy, _⟩ <;> omega
  · by_cases e : x.floor = y.floor
    · have hy1 : (y.floor : Rat) < y := by rw [← e]; grind
      have n1 : ¬ (m = 0 ∨ (x.floor : Rat) = x) := by
        rintro (h0 | h0)
        · subst h0
          have : whQ 0 x = x.floor := by unfold whQ; rw [if_pos (.inl rfl)]
          omega
        · rw [h0] at hx1; exact Rat.lt_irrefl hx1
      have n2 : ¬ (m = 0 ∨ (y.floor : Rat) = y) := by
        rintro (h0 | h0)
        · exact n1 (.inl h0)
        · rw [h0] at hy1; exact Rat.lt_irrefl hy1
      have k : whQ m y = y.floor + 1 := by
        unfold whQ at hx ⊢
        rw [if_neg n1] at hx
        rw [if_neg n2]
        by_cases h2 : m = 1
        · rw [if_pos h2] at hx ⊢
          by_cases h3 : x < 0
          · have h4 : y < 0 := by
              have : (x.floor : Rat) < ((0 : Int) : Rat) := by show (x.floor : Rat) < 0; grind
              rw [cast_lt] at this
              have : (y.floor + 1 : Int) ≤ 0 := by omega
              have : ((y.floor + 1 : Int) : Rat) ≤ ((0 : Int) : Rat) := cast_le.2 this
              rw [cast1] at this
              have : (y.floor : Rat) + 1 ≤ 0 := this
              grind
            rw [if_pos h4]
          · rw [if_neg h3] at hx; omega
        · rw [if_neg h2] at hx ⊢
          split at hx
          · omega
          · rename_i hn
            rw [if_neg]
            rw [← e]
            rintro (h5 | ⟨h5, h6⟩)
            · exact hn (.inl (by grind))
            · by_cases h7 : x = y
              · subst h7; exact hn (.inr ⟨h5, h6⟩)
              · exact hn (.inl (by grind))
      rw [hx, k, e]; exact Int.le_refl _
    · rcases whQ_ways m y with hy | ⟨hy, _⟩ <;> omega
/-- The other sign. -/
theorem fl_neg {x : Rat} (h : (x.floor : Rat) < x) : (-x).floor = -x.floor - 1 := by
  have b := fl_lt x
  refine fl_uni ?_ ?_
  · have e : ((-x.floor - 1 : Int) : Rat) = -(x.floor : Rat) - 1 := by rw [Rat.intCast_sub, castn]; rfl
    rw [e]; grind
  · have e : ((-x.floor - 1 : Int) : Rat) = -(x.floor : Rat) - 1 := by rw [Rat.intCast_sub, castn]; rfl
    rw [e]; grind
theorem whQ_neg {m : Nat} (hm : m = 1 ∨ m = 2) (x : Rat) : whQ m (-x) = -whQ m x := by
  have a := fl_le x
  have b := fl_lt x
  by_cases h0 : (x.floor : Rat) = x
  · have e : -x = ((-x.floor : Int) : Rat) := by rw [castn, h0]
    rw [e, whQ_int]
    congr 1
    conv => rhs; rw [← h0]
    rw [whQ_int]
  · have h1 : (x.floor : Rat) < x := by grind
    have hn := fl_neg h1
    have e : (((-x).floor : Int) : Rat) = -(x.floor : Rat) - 1 := by rw [hn, Rat.intCast_sub, castn]; rfl
    have n1 : ¬ (m = 0 ∨ (x.floor : Rat) = x) := by rintro (h | h); omega; exact h0 h
    have n2 : ¬ (m = 0 ∨ ((-x).floor : Rat) = -x) := by
      rintro (h | h)
      · omega
      · rw [e] at h; grind
    unfold whQ
    rw [if_neg n1, if_neg n2]
    rcases hm with rfl | rfl
    · rw [if_pos rfl, if_pos rfl, hn]
      by_cases h3 : x < 0
      · rw [if_pos h3, if_neg (by grind)]; omega
      · have h4 : ¬ x = 0 := fun e0 => h0 (by rw [e0]; exact congrArg (fun z : Int => (z : Rat)) (fl_int 0))
        rw [if_neg h3, if_pos (by grind)]; omega
    · rw [if_neg (show ¬ (2 : Nat) = 1 by decide), if_neg (show ¬ (2 : Nat) = 1 by decide), cast1, cast1, e, hn]
      by_cases h5 : x - (x.floor : Rat) < (x.floor : Rat) + 1 - x
      · rw [if_neg, if_pos (.inl h5)]
        · omega
        · rintro (h6 | ⟨h6, _⟩) <;> grind
      · by_cases h6 : x - (x.floor : Rat) = (x.floor : Rat) + 1 - x
        · by_cases h7 : x.floor % 2 = 0
          · rw [if_neg, if_pos (.inr ⟨h6, h7⟩)]
            · omega
            · rintro (h8 | ⟨_, h8⟩)
              · grind
              · omega
          · rw [if_pos, if_neg (by rintro (h8 | ⟨_, h8⟩); exact h5 h8; exact h7 h8)]
            · omega
            · exact .inr ⟨by grind, by omega⟩
        · rw [if_pos, if_neg (by rintro (h8 | ⟨h8, _⟩); exact h5 h8; exact h6 h8)]
          · omega
          · exact .inl (by grind)
/-- Down, a whole step more. -/
theorem whQ_zero (x : Rat) : whQ 0 x = x.floor := by unfold whQ; rw [if_pos (.inl rfl)]
theorem whQ_shift (x : Rat) : whQ 0 (x + 1) = whQ 0 x + 1 := by
  rw [whQ_zero, whQ_zero]
  have a := fl_le x
  have b := fl_lt x
  refine fl_uni ?_ ?_ <;> rw [cast1] <;> grind
/-- By way of a finer grid, down. -/
theorem fl_twice {q : Rat} {n : Int} (hn : 0 < n) : ((q.floor : Rat) / (n : Rat)).floor = (q / (n : Rat)).floor := by
  have hn' : (0 : Rat) < (n : Rat) := by
    have : ((0 : Int) : Rat) < (n : Rat) := cast_lt.2 hn
    exact this
  have a := fl_le q
  have b := fl_lt q
  have a2 := fl_le (q / (n : Rat))
  have b2 := fl_lt (q / (n : Rat))
  have e : q / (n : Rat) * (n : Rat) = q := Rat.div_mul_cancel (Rat.ne_of_gt hn')
  generalize (q / (n : Rat)).floor = z at *
  have k1 : (z : Rat) * (n : Rat) ≤ q := by
    have := Rat.mul_le_mul_of_nonneg_right a2 (Rat.le_of_lt hn')
    rwa [e] at this
  have k2 : q < ((z : Rat) + 1) * (n : Rat) := by
    have := Rat.mul_lt_mul_of_pos_right b2 hn'
    rwa [e] at this
  have k3 : z * n ≤ q.floor := by
    have : ((z * n : Int) : Rat) < ((q.floor + 1 : Int) : Rat) := by rw [cast1, Rat.intCast_mul]; grind
    rw [cast_lt] at this; omega
  have k4 : q.floor < (z + 1) * n := by
    have : (q.floor : Rat) < (((z + 1) * n : Int) : Rat) := by rw [Rat.intCast_mul, cast1]; grind
    rwa [cast_lt] at this
  have e2 : (q.floor : Rat) / (n : Rat) * (n : Rat) = (q.floor : Rat) := Rat.div_mul_cancel (Rat.ne_of_gt hn')
  refine fl_uni ?_ ?_
  · rw [← Rat.not_lt]
    intro h
    have := Rat.mul_lt_mul_of_pos_right h hn'
    rw [e2, ← Rat.intCast_mul, cast_lt] at this
    omega
  · rw [← Rat.not_le]
    intro h
    have := Rat.mul_le_mul_of_nonneg_right h (Rat.le_of_lt hn')
    rw [e2, ← cast1, ← Rat.intCast_mul, cast_le] at this
    omega
end Go.Proofs.YtnahepfnejdcgaaGreatDoor
