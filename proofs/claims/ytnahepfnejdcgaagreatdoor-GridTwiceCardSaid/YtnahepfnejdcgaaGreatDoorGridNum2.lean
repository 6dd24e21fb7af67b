/- Plain rounding to a grid: what the laws of layer 5 want. Own work; no program text. -/
import Derived.Test.YtnahepfnejdcgaaGreatDoorGridNum
namespace Go.Proofs.YtnahepfnejdcgaaGreatDoor

/-- What Whole answers of a text's fraction. -/
def whS (p : List UInt8 × List UInt8) (m : Int) : List UInt8 := if isR p && (decide (0 ≤ m) && decide (m ≤ 2)) then wd (whQ m.toNat (valR p)) else []
/-- Rounded to a grid. -/
def rndQ (m : Nat) (x g : Rat) : Rat := (whQ m (x / g) : Rat) * g
def rndS (p g : List UInt8 × List UInt8) (m : Int) : List UInt8 × List UInt8 :=
  if isR g && decide (0 < valR g) then (if isR p && (decide (0 ≤ m) && decide (m ≤ 2)) then rd (rndQ m.toNat (valR p) (valR g)) else ([], [])) else ([], [])
def cenS (p : List UInt8 × List UInt8) : List UInt8 × List UInt8 := rndS p ([49], [49, 48, 48]) 2
theorem whS_yes {p : List UInt8 × List UInt8} {m : Nat} (h : isR p = true) (hm : m ≤ 2) : whS p (m : Int) = wd (whQ m (valR p)) := by
  unfold whS
  rw [h, decide_eq_true (by omega), decide_eq_true (by omega)]
  rfl
theorem whS_no {p : List UInt8 × List UInt8} {m : Int} (h : isR p = false) : whS p m = [] := by unfold whS; rw [h]; rfl
theorem whS_mode {p : List UInt8 × List UInt8} {m : Int} (h : m < 0 ∨ 2 < m) : whS p m = [] := by
  unfold whS
  rcases h with h | h
  · rw [decide_eq_false (show ¬ 0 ≤ m by omega), Bool.false_and, Bool.and_false]; rfl
  · rw [decide_eq_false (show ¬ m ≤ 2 by omega), Bool.and_false, Bool.and_false]; rfl
theorem rndS_yes {x g : Rat} {m : Nat} (hg : 0 < g) (hm : m ≤ 2) : rndS (rd x) (rd g) (m : Int) = rd (rndQ m x g) := by
  unfold rndS
  rw [isR_rd, isR_rd, valR_rd, valR_rd, decide_eq_true hg, decide_eq_true (by omega), decide_eq_true (by omega)]
  rfl
theorem rndS_grid {p g : List UInt8 × List UInt8} {m : Int} (h : (isR g && decide (0 < valR g)) = false) : rndS p g m = ([], []) := by unfold rndS; rw [h]; rfl
theorem rndS_no {p g : List UInt8 × List UInt8} {m : Int} (h : (isR p && (decide (0 ≤ m) && decide (m ≤ 2))) = false) : rndS p g m = ([], []) := by
  unfold rndS
  rw [h]
  cases isR g && decide (0 < valR g) <;> rfl

theorem ne_of_pos {g : Rat} (h : 0 < g) : g ≠ 0 := fun e => Rat.lt_irrefl (e ▸ h)
theorem over_grid {x g : Rat} (h : 0 < g) : x / g * g = x := Rat.div_mul_cancel (ne_of_pos h)
theorem mul_over {q g : Rat} (h : 0 < g) : q * g / g = q := Rat.mul_div_cancel (ne_of_pos h)
/-- What is rounded lies on the grid. -/
theorem rnd_over (m : Nat) (x : Rat) {g : Rat} (h : 0 < g) : rndQ m x g / g = (whQ m (x / g) : Rat) := mul_over h
theorem rnd_stay (m : Nat) (x : Rat) {g : Rat} (h : 0 < g) : rndQ m (rndQ m x g) g = rndQ m x g := by
  show (whQ m (rndQ m x g / g) : Rat) * g = _
  rw [rnd_over m x h, whQ_int]; rfl
theorem times_le {a b g : Rat} (h : 0 < g) (hab : a ≤ b) : a * g ≤ b * g := Rat.mul_le_mul_of_nonneg_right hab (Rat.le_of_lt h)
theorem times_lt {a b g : Rat} (h : 0 < g) (hab : a < b) : a * g < b * g := Rat.mul_lt_mul_of_pos_right hab h
theorem rnd_near (m : Nat) (x : Rat) {g : Rat} (h : 0 < g) : rndQ m x g - x < g ∧ x - rndQ m x g < g := by
  obtain ⟨a, b⟩ := whQ_near m (x / g)
  have a' := times_lt h a
  have b' := times_lt h b
  rw [over_grid h] at a' b'
  unfold rndQ
  constructor <;> grind
theorem rnd_down (x : Rat) {g : Rat} (h : 0 < g) : rndQ 0 x g ≤ x := by
  have a := times_le h (whQ_down (x / g))
  rwa [over_grid h] at a
theorem over_neg {x g : Rat} (h : 0 < g) : x / g < 0 ↔ x < 0 := by
  have e := over_grid (x := x) h
  constructor
  · intro k
    have := times_lt h k
    rw [e] at this
    grind
  · intro k
    rw [← Rat.not_le]
    intro k2
    have := times_le h k2
    rw [e] at this
    grind
theorem rnd_trunc_neg {x g : Rat} (h : 0 < g) (hx : x < 0) : x ≤ rndQ 1 x g ∧ rndQ 1 x g ≤ 0 := by
  obtain ⟨a, b⟩ := whQ_trunc_neg ((over_neg h).2 hx)
  have a' := times_le h a
  rw [over_grid h] at a'
  have b' : (whQ 1 (x / g) : Rat) ≤ ((0 : Int) : Rat) := cast_le.2 b
  have b'' := times_le h b'
  refine ⟨a', ?_⟩
  have e : ((0 : Int) : Rat) * g = 0 := Rat.zero_mul g
  rw [e] at b''
  exact b''
theorem rnd_trunc_pos {x g : Rat} (h : 0 < g) (hx : ¬ x < 0) : rndQ 1 x g ≤ x ∧ 0 ≤ rndQ 1 x g := by
  obtain ⟨a, b⟩ := whQ_trunc_pos (fun k => hx ((over_neg h).1 k))
  have a' := times_le h a
  rw [over_grid h] at a'
  have b' : ((0 : Int) : Rat) ≤ (whQ 1 (x / g) : Rat) := cast_le.2 b
  have b'' := times_le h b'
  refine ⟨a', ?_⟩
  have e : ((0 : Int) : Rat) * g = 0 := Rat.zero_mul g
  rw [e] at b''
  exact b''
theorem rnd_even (x : Rat) {g : Rat} (h : 0 < g) : (rndQ 2 x g - x) + (rndQ 2 x g - x) ≤ g ∧ (x - rndQ 2 x g) + (x - rndQ 2 x g) ≤ g := by
  obtain ⟨a, b⟩ := whQ_even (x / g)
  have a' := times_le h a
  have b' := times_le h b
  have e := over_grid (x := x) h
  unfold rndQ
  constructor <;> grind
theorem over_le {x y g : Rat} (h : 0 < g) (hxy : x ≤ y) : x / g ≤ y / g := by
  rw [← Rat.not_lt]
  intro k
  have := times_lt h k
  rw [over_grid h, over_grid h] at this
  grind
theorem rnd_mono (m : Nat) {x y g : Rat} (h : 0 < g) (hxy : x ≤ y) : rndQ m x g ≤ rndQ m y g := by
  have a := whQ_mono m (over_le h hxy)
  exact times_le h (cast_le.2 a)
theorem over_minus {x g : Rat} : (-x) / g = -(x / g) := by rw [Rat.div_def, Rat.div_def, Rat.neg_mul]
theorem rnd_neg {m : Nat} (hm : m = 1 ∨ m = 2) (x g : Rat) : rndQ m (-x) g = -rndQ m x g := by
  unfold rndQ
  rw [over_minus, whQ_neg hm, castn, Rat.neg_mul]
theorem over_more {x g : Rat} (h : 0 < g) : (x + g) / g = x / g + 1 := by
  have e : x + g = (x / g + 1) * g := by
    have := over_grid (x := x) h
    grind
  rw [e, mul_over h]
theorem rnd_shift (x : Rat) {g : Rat} (h : 0 < g) : rndQ 0 (x + g) g = rndQ 0 x g + g := by
  unfold rndQ
  rw [over_more h, whQ_shift, cast1]
  grind
theorem pos_cast {n : Int} (hn : 0 < n) : (0 : Rat) < (n : Rat) := cast_lt.2 hn
theorem over_wide {q g : Rat} {n : Int} (h : 0 < g) (hn : 0 < n) : q * g / (g * (n : Rat)) = q / (n : Rat) := by
  have hn' := pos_cast hn
  have hw : 0 < g * (n : Rat) := Rat.mul_pos h hn'
  have e : q * g = q / (n : Rat) * (g * (n : Rat)) := by
    have := over_grid (x := q) hn'
    grind
  rw [e, mul_over hw]
/-- By way of a finer grid, down. -/
theorem rnd_twice (x : Rat) {g : Rat} {n : Int} (h : 0 < g) (hn : 0 < n) : rndQ 0 (rndQ 0 x g) (g * (n : Rat)) = rndQ 0 x (g * (n : Rat)) := by
  have e : x = x / g * g := (over_grid h).symm
  have k1 : rndQ 0 x g / (g * (n : Rat)) = (whQ 0 (x / g) : Rat) / (n : Rat) := over_wide h hn
  have k2 : x / (g * (n : Rat)) = x / g / (n : Rat) := by
    conv => lhs; rw [e]
    exact over_wide h hn
  show (whQ 0 (rndQ 0 x g / (g * (n : Rat))) : Rat) * _ = (whQ 0 (x / (g * (n : Rat))) : Rat) * _
  rw [k1, k2, whQ_zero, whQ_zero, whQ_zero, fl_twice hn]

/-! Halves, and thousandths. -/
theorem divInt_rat (n d : Int) : Rat.divInt n d = (n : Rat) / (d : Rat) := Rat.divInt_eq_div n d
theorem half_floor (f r : Int) (h0 : 0 ≤ r) (h1 : r < 2) : (Rat.divInt (2 * f + r) 2).floor = f ∧ Rat.divInt (2 * f + r) 2 = (f : Rat) + (r : Rat) / 2 := by
  have e : Rat.divInt (2 * f + r) 2 = (f : Rat) + (r : Rat) / 2 := by
    rw [divInt_rat, Rat.intCast_add, Rat.intCast_mul]
    have : ((2 : Int) : Rat) = 2 := rfl
    rw [this]
    grind
  refine ⟨?_, e⟩
  rw [e]
  have hr : r = 0 ∨ r = 1 := by omega
  rcases hr with rfl | rfl
  · have : ((0 : Int) : Rat) = 0 := rfl
    rw [this]
    refine fl_uni ?_ ?_ <;> grind
  · have : ((1 : Int) : Rat) = 1 := rfl
    rw [this]
    refine fl_uni ?_ ?_ <;> grind
theorem whQ_half0 (f : Int) (m : Nat) : whQ m (Rat.divInt (2 * f) 2) = f := by
  have e := (half_floor f 0 (by decide) (by decide)).2
  rw [Int.add_zero] at e
  have e2 : (f : Rat) + ((0 : Int) : Rat) / 2 = (f : Rat) := by
    have : ((0 : Int) : Rat) = 0 := rfl
    rw [this]; grind
  rw [e, e2, whQ_int]
theorem whQ_half1 (f : Int) (m : Nat) : whQ m (Rat.divInt (2 * f + 1) 2) = if m = 0 then f else if m = 1 then (if f < 0 then f + 1 else f) else (if f % 2 = 0 then f else f + 1) := by
  obtain ⟨k, e⟩ := half_floor f 1 (by decide) (by decide)
  have e1 : ((1 : Int) : Rat) = 1 := rfl
  rw [e1] at e
  unfold whQ
  rw [k]
  by_cases h0 : m = 0
  · rw [if_pos (.inl h0), if_pos h0]
  · have hne : ¬ (m = 0 ∨ (f : Rat) = Rat.divInt (2 * f + 1) 2) := by
      rintro (h | h)
      · exact h0 h
      · rw [e] at h; grind
    rw [if_neg hne, if_neg h0]
    by_cases h1 : m = 1
    · rw [if_pos h1, if_pos h1]
      by_cases h2 : f < 0
      · have : Rat.divInt (2 * f + 1) 2 < 0 := by
          have : (f : Rat) ≤ ((-1 : Int) : Rat) := cast_le.2 (by omega)
          have e3 : ((-1 : Int) : Rat) = -1 := rfl
          rw [e3] at this
          rw [e]; grind
        rw [if_pos this, if_pos h2]
      · have : ¬ Rat.divInt (2 * f + 1) 2 < 0 := by
          have : ((0 : Int) : Rat) ≤ (f : Rat) := cast_le.2 (by omega)
          have e3 : ((0 : Int) : Rat) = 0 := rfl
          rw [e3] at this
          rw [e]; grind
        rw [if_neg this, if_neg h2]
    · rw [if_neg h1, if_neg h1, cast1, e]
      by_cases h2 : f % 2 = 0
      · rw [if_pos h2, if_pos (.inr ⟨by grind, h2⟩)]
      · rw [if_neg h2, if_neg]
        rintro (h | ⟨_, h⟩)
        · grind
        · exact h2 h
/-- The nearest one of a tenth: what is left tells. -/
theorem whQ_tenth (c r : Int) (h0 : 0 ≤ r) (h1 : r < 10) : whQ 2 (Rat.divInt (10 * c + r) 10) = if 5 < r ∨ (r = 5 ∧ c % 2 = 1) then c + 1 else c := by
  have e : Rat.divInt (10 * c + r) 10 = (c : Rat) + (r : Rat) / 10 := by
    rw [divInt_rat, Rat.intCast_add, Rat.intCast_mul]
    have : ((10 : Int) : Rat) = 10 := rfl
    rw [this]
    grind
  have a0 : ((0 : Int) : Rat) ≤ (r : Rat) := cast_le.2 h0
  have a1 : (r : Rat) < ((10 : Int) : Rat) := cast_lt.2 h1
  have z0 : ((0 : Int) : Rat) = 0 := rfl
  have z1 : ((10 : Int) : Rat) = 10 := rfl
  have z5 : ((5 : Int) : Rat) = 5 := rfl
  rw [z0] at a0
  rw [z1] at a1
  have k : (Rat.divInt (10 * c + r) 10).floor = c := by
    rw [e]
    refine fl_uni ?_ ?_ <;> grind
  unfold whQ
  rw [k]
  by_cases h2 : r = 0
  · have : (c : Rat) = Rat.divInt (10 * c + r) 10 := by rw [e, h2, z0]; grind
    rw [if_pos (.inr this), if_neg (by omega)]
  · have hr : (0 : Rat) < (r : Rat) := by have := cast_lt.2 (show 0 < r by omega); rwa [z0] at this
    rw [if_neg (by rintro (h | h); cases h; rw [e] at h; grind), if_neg (by decide), cast1, e]
    rcases Int.lt_trichotomy r 5 with h3 | h3 | h3
    · have h4 : (r : Rat) < 5 := by have := cast_lt.2 h3; rwa [z5] at this
      rw [if_pos (.inl (by grind)), if_neg (by omega)]
    · subst h3
      rw [z5]
      by_cases h5 : c % 2 = 0
      · rw [if_pos (.inr ⟨by grind, h5⟩), if_neg (by omega)]
      · rw [if_neg, if_pos (.inr ⟨rfl, by omega⟩)]
        rintro (h | ⟨_, h⟩)
        · grind
        · exact h5 h
    · have h4 : (5 : Rat) < (r : Rat) := by have := cast_lt.2 h3; rwa [z5] at this
      rw [if_neg, if_pos (.inl h3)]
      rintro (h | ⟨h, _⟩) <;> grind
theorem cents_of (n : Int) : Rat.divInt n 1000 / Rat.divInt 1 100 = Rat.divInt n 10 := by
  rw [divInt_rat, divInt_rat, divInt_rat]
  have z1 : ((1000 : Int) : Rat) = 1000 := rfl
  have z2 : ((1 : Int) : Rat) = 1 := rfl
  have z3 : ((100 : Int) : Rat) = 100 := rfl
  have z4 : ((10 : Int) : Rat) = 10 := rfl
  rw [z1, z2, z3, z4]
  grind
theorem cent_back (c : Int) : (c : Rat) * Rat.divInt 1 100 = Rat.divInt c 100 := by
  rw [divInt_rat, divInt_rat]
  have z2 : ((1 : Int) : Rat) = 1 := rfl
  rw [z2]
  grind
theorem rnd_cents (n : Int) : rndQ 2 (Rat.divInt n 1000) (Rat.divInt 1 100) = Rat.divInt (whQ 2 (Rat.divInt n 10)) 100 := by
  unfold rndQ
  rw [cents_of, cent_back]
theorem minus_divInt (n d : Int) : Rat.divInt (-n) d = -Rat.divInt n d := (Rat.neg_divInt n d).symm
end Go.Proofs.YtnahepfnejdcgaaGreatDoor
