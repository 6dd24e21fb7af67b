/- Plain numbers: many of Euclid's divisions at once. Own work; no program text. -/
import Derived.Test.YtcekdidefomkfaaDoorNumA
namespace Go.Proofs.YtcekdidefomkfaaDoor

/-- Lower places, of opposite signs, do not turn what the higher ones tell. -/
theorem mix {R p q u m n t : Int} (hR : 0 ≤ R) (hp : 0 ≤ p) (hpR : p ≤ R) (hq : 0 ≤ q) (hqR : q ≤ R) (hs : (0 ≤ m ∧ n ≤ 0) ∨ (m ≤ 0 ∧ 0 ≤ n)) (h1 : t ≤ u + m) (h2 : t ≤ u + n) :
    t * R ≤ u * R + m * p + n * q := by
  have e1 := Int.mul_le_mul_of_nonneg_right h1 hR
  have e2 := Int.mul_le_mul_of_nonneg_right h2 hR
  rw [Int.add_mul] at e1 e2
  rcases hs with ⟨hm, hn⟩ | ⟨hm, hn⟩
  · have a1 := Int.mul_nonneg hm hp
    have a2 := Int.mul_le_mul_of_nonpos_left hn hqR
    omega
  · have a1 := Int.mul_nonneg hn hq
    have a2 := Int.mul_le_mul_of_nonpos_left hm hpR
    omega

/-- Where the divisions of x0 and y0 stand, and what they say of A and B. -/
structure Fo (A B x0 y0 a b c d x y : Int) : Prop where
  ex : x = a * x0 + b * y0
  ey : y = c * x0 + d * y0
  sg : (0 ≤ a ∧ b ≤ 0 ∧ c ≤ 0 ∧ 0 ≤ d ∧ a * d - b * c = 1) ∨ (a ≤ 0 ∧ 0 ≤ b ∧ 0 ≤ c ∧ d ≤ 0 ∧ a * d - b * c = -1)
  ba : -1000000000 < a ∧ a < 1000000000
  bb : -1000000000 < b ∧ b < 1000000000
  bc : -1000000000 < c ∧ c < 1000000000
  bd : -1000000000 < d ∧ d < 1000000000
  bx : 0 ≤ x ∧ x < 1000000000000000000
  bY : 0 ≤ y ∧ y < 1000000000000000000
  pa : 0 ≤ x + a
  pb : 0 ≤ x + b
  pc : 0 ≤ y + c
  pd : 0 ≤ y + d
  nA : 0 ≤ a * A + b * B
  nB : 0 ≤ c * A + d * B
  tr : (a = 1 ∧ b = 0 ∧ c = 0 ∧ d = 1) ∨ (a * A + b * B ≤ B ∧ c * A + d * B < B)

theorem Fo.start {A B x0 y0 : Int} (hA : 0 ≤ A) (hB : 0 ≤ B) (hx : 0 ≤ x0 ∧ x0 < 1000000000000000000) (hy : 0 ≤ y0 ∧ y0 < 1000000000000000000) : Fo A B x0 y0 1 0 0 1 x0 y0 := by
  refine ⟨by omega, by omega, .inl ⟨by omega, by omega, by omega, by omega, by omega⟩, by omega, by omega, by omega, by omega, hx, hy, by omega, by omega, by omega, by omega, by omega, by omega, .inl ⟨rfl, rfl, rfl, rfl⟩⟩

/-- What a coefficient's square is below, it is below the root of. -/
theorem root_lt {v x z : Int} (h1 : v ≤ x) (h2 : v * x ≤ z) (h3 : z < 1000000000000000000) : v < 1000000000 := by
  rcases (by omega : v < 1000000000 ∨ 1000000000 ≤ v) with h | h
  · exact h
  · exfalso
    have e1 : 1000000000 * x ≤ v * x := Int.mul_le_mul_of_nonneg_right h (by omega)
    have e2 : (1000000000 : Int) * 1000000000 ≤ 1000000000 * x := by omega
    omega

theorem Fo.step {A B x0 y0 a b c d x y R p r q : Int} (h : Fo A B x0 y0 a b c d x y) (hA : A = x0 * R + p) (hB : B = y0 * R + r) (hR : 1 ≤ R) (hp : 0 ≤ p) (hpR : p ≤ R) (hr : 0 ≤ r) (hrR : r ≤ R)
    (hx0 : x0 < 1000000000000000000) (hy0 : y0 < 1000000000000000000) (hc : y + c ≠ 0) (hd : y + d ≠ 0) (hq1 : q = (x + a) / (y + c)) (hq2 : q = (x + b) / (y + d)) :
    Fo A B x0 y0 c d (a - q * c) (b - q * d) y (x - q * y) ∧ x - q * y < y ∧ 0 ≤ q ∧ (-1000000000 < q * c ∧ q * c < 1000000000) ∧ (-1000000000 < q * d ∧ q * d < 1000000000) ∧ 0 ≤ q * y ∧ q * y < 1000000000000000000 := by
  obtain ⟨ex, ey, sg, ba, bb, bc, bd, bx, bY, pa, pb, pc, pd, nA, nB, tr⟩ := h
  have hq0 : 0 ≤ q := by rw [hq1]; exact Int.ediv_nonneg pa pc
  have d1 := Int.mul_ediv_add_emod (x + a) (y + c)
  have d2 := Int.mul_ediv_add_emod (x + b) (y + d)
  have m1 := Int.emod_nonneg (x + a) hc
  have m2 := Int.emod_nonneg (x + b) hd
  have m3 := Int.emod_lt_of_pos (x + a) (show 0 < y + c by omega)
  have m4 := Int.emod_lt_of_pos (x + b) (show 0 < y + d by omega)
  rw [← hq1, Int.mul_comm, Int.mul_add] at d1
  rw [← hq2, Int.mul_comm, Int.mul_add] at d2
  generalize (x + a) % (y + c) = r1 at *
  generalize (x + b) % (y + d) = r2 at *
  clear hq1 hq2
  have hqy : 0 ≤ q * y := Int.mul_nonneg hq0 bY.1
  have ec : y + c + 0 = y + c := by omega
  have ident1 : (a - q * c) * A + (b - q * d) * B = (x - q * y) * R + (a - q * c) * p + (b - q * d) * r := by
    rw [hA, hB, ex, ey]; grind
  have ident2 : (c * A + d * B) - ((a - q * c) * A + (b - q * d) * B) = (y - (x - q * y)) * R + (c - (a - q * c)) * p + (d - (b - q * d)) * r := by
    rw [ident1, hA, hB, ey]; grind
  have ey' : x - q * y = (a - q * c) * x0 + (b - q * d) * y0 := by rw [ex, ey]; grind
  have det' : c * (b - q * d) - d * (a - q * c) = -(a * d - b * c) := by grind
  have x0e : (a * d - b * c) * x0 = (b - q * d) * (-y) + d * (x - q * y) := by rw [ex, ey]; grind
  have y0e : (a * d - b * c) * y0 = (a - q * c) * y - c * (x - q * y) := by rw [ex, ey]; grind
  have sgn : (0 ≤ a ∧ b ≤ 0 ∧ c ≤ 0 ∧ 0 ≤ d ∧ q * c ≤ 0 ∧ 0 ≤ q * d ∧ a * d - b * c = 1) ∨ (a ≤ 0 ∧ 0 ≤ b ∧ 0 ≤ c ∧ d ≤ 0 ∧ 0 ≤ q * c ∧ q * d ≤ 0 ∧ a * d - b * c = -1) := by
    rcases sg with ⟨s1, s2, s3, s4, s5⟩ | ⟨s1, s2, s3, s4, s5⟩
    · exact .inl ⟨s1, s2, s3, s4, Int.mul_nonpos_of_nonneg_of_nonpos hq0 s3, Int.mul_nonneg hq0 s4, s5⟩
    · exact .inr ⟨s1, s2, s3, s4, Int.mul_nonneg hq0 s3, Int.mul_nonpos_of_nonneg_of_nonpos hq0 s4, s5⟩
  clear sg
  have key : -1000000000 < a - q * c ∧ a - q * c < 1000000000 ∧ -1000000000 < b - q * d ∧ b - q * d < 1000000000 := by
    rcases sgn with ⟨s1, s2, s3, s4, s5, s6, s7⟩ | ⟨s1, s2, s3, s4, s5, s6, s7⟩
    · rw [s7, Int.one_mul] at x0e y0e
      have k1 : 0 ≤ d * (x - q * y) := Int.mul_nonneg s4 (by omega)
      have k2 : 0 ≤ -(c * (x - q * y)) := by
        have := Int.mul_nonpos_of_nonpos_of_nonneg s3 (show 0 ≤ x - q * y by omega)
        omega
      have k3 : (b - q * d) * (-y) = (-(b - q * d)) * y := by grind
      have z1 := root_lt (v := -(b - q * d)) (x := y) (z := x0) (by omega) (by omega) hx0
      have z2 := root_lt (v := a - q * c) (x := y) (z := y0) (by omega) (by omega) hy0
      omega
    · rw [s7] at x0e y0e
      have k1 : d * (x - q * y) ≤ 0 := Int.mul_nonpos_of_nonpos_of_nonneg s4 (by omega)
      have k2 : 0 ≤ c * (x - q * y) := Int.mul_nonneg s3 (by omega)
      have k3 : (b - q * d) * (-y) = -((b - q * d) * y) := by grind
      have k4 : (a - q * c) * y = -((-(a - q * c)) * y) := by grind
      have z1 := root_lt (v := b - q * d) (x := y) (z := x0) (by omega) (by omega) hx0
      have z2 := root_lt (v := -(a - q * c)) (x := y) (z := y0) (by omega) (by omega) hy0
      omega
  have hnn : 0 ≤ (a - q * c) * A + (b - q * d) * B := by
    have := mix (t := 0) (R := R) (p := p) (q := r) (u := x - q * y) (m := a - q * c) (n := b - q * d) (by omega) hp hpR hr hrR (by rcases sgn with s | s <;> omega) (by omega) (by omega)
    rw [ident1]; omega
  have hlt : (a - q * c) * A + (b - q * d) * B < c * A + d * B := by
    have := mix (t := 1) (R := R) (p := p) (q := r) (u := y - (x - q * y)) (m := c - (a - q * c)) (n := d - (b - q * d)) (by omega) hp hpR hr hrR (by rcases sgn with s | s <;> omega) (by omega) (by omega)
    omega
  have hyx : x - q * y < y := by rcases sgn with s | s <;> omega
  have hyn : 0 ≤ x - q * y := by rcases sgn with s | s <;> omega
  have hcB : c * A + d * B ≤ B := by
    rcases tr with ⟨e1, e2, e3, e4⟩ | ⟨_, e⟩
    · rw [e3, e4]; omega
    · omega
  refine ⟨⟨ey, ey', ?_, bc, bd, by omega, by omega, bY, by omega, pc, pd, by omega, by omega, nB, hnn, .inr ⟨hcB, by omega⟩⟩, hyx, hq0, by rcases sgn with s | s <;> omega, by rcases sgn with s | s <;> omega, hqy, by omega⟩
  rcases sgn with s | s
  · exact .inr (by omega)
  · exact .inl (by omega)

/-- Sums of multiples, turned back by multiples, have the same divisors. -/
theorem gcd_steps {A B A' B' : Nat} {a b c d : Int} (hA : (A' : Int) = a * A + b * B) (hB : (B' : Int) = c * A + d * B) (hd : a * d - b * c = 1 ∨ a * d - b * c = -1) : Nat.gcd A' B' = Nat.gcd A B := by
  have div : ∀ {m n x y : Int} {X Y Z : Nat}, (Z : Int) = m * X + n * Y → Nat.gcd X Y ∣ Z := fun {m n x y X Y Z} h => by
    apply Int.natCast_dvd_natCast.1
    rw [h]
    exact Int.dvd_add (Int.dvd_mul_of_dvd_right (Int.natCast_dvd_natCast.2 (Nat.gcd_dvd_left X Y))) (Int.dvd_mul_of_dvd_right (Int.natCast_dvd_natCast.2 (Nat.gcd_dvd_right X Y)))
  obtain ⟨e, he, hee⟩ : ∃ e : Int, e * (a * d - b * c) = 1 ∧ True := by
    rcases hd with h | h
    · exact ⟨1, by rw [h]; rfl, trivial⟩
    · exact ⟨-1, by rw [h]; rfl, trivial⟩
  have iA : (A : Int) = (e * d) * A' + (-(e * b)) * B' := by rw [hA, hB]; grind
  have iB : (B : Int) = (-(e * c)) * A' + (e * a) * B' := by rw [hA, hB]; grind
  apply Nat.dvd_antisymm
  · exact Nat.dvd_gcd (div (x := 0) (y := 0) iA) (div (x := 0) (y := 0) iB)
  · exact Nat.dvd_gcd (div (x := 0) (y := 0) hA) (div (x := 0) (y := 0) hB)

theorem tm_hi (al : Int) : al.tmod 1000000000 < 1000000000 := Int.tmod_lt_of_pos al (by omega)
theorem tm_lo (al : Int) : -1000000000 < al.tmod 1000000000 := by
  have := Int.tmod_lt_of_pos (-al) (show (0 : Int) < 1000000000 by omega)
  rw [Int.neg_tmod] at this
  omega
/-- k limbs of m times xs and n times ys together. -/
def CombRel (xs ys : List Nat) (m n : Int) (N : Nat) (zs : List Nat) (k : Nat) (cy : Int) : Prop :=
  zs.length = N ∧ Small zs ∧ (-2000000000 ≤ cy ∧ cy ≤ 2000000000) ∧ (sumTo (gl zs) k : Int) + cy * Bp k = m * sumTo (gl xs) k + n * sumTo (gl ys) k
theorem CombRel.start (xs ys : List Nat) (m n : Int) (N : Nat) : CombRel xs ys m n N (List.replicate N 0) 0 0 :=
  ⟨List.length_replicate, Small.zeros N, by omega, by simp [sumTo]⟩
theorem mul_small {m : Int} {x : Nat} (h1 : -1000000000 < m) (h2 : m < 1000000000) (hx : x < 1000000000) : -999999998000000001 ≤ m * x ∧ m * x ≤ 999999998000000001 := by
  rcases (by omega : 0 ≤ m ∨ m ≤ 0) with h | h
  · have e1 : 0 ≤ m * (x : Int) := Int.mul_nonneg h (by omega)
    have e2 : m * (x : Int) ≤ 999999999 * x := Int.mul_le_mul_of_nonneg_right (by omega) (by omega)
    omega
  · have e1 : 0 ≤ (-m) * (x : Int) := Int.mul_nonneg (by omega) (by omega)
    have e2 : (-m) * (x : Int) ≤ 999999999 * x := Int.mul_le_mul_of_nonneg_right (by omega) (by omega)
    rw [Int.neg_mul] at e1 e2
    omega
/-- One limb more: low and cy' are what is left of all, and what is carried. -/
theorem CombRel.step {xs ys : List Nat} {m n : Int} {N : Nat} {zs : List Nat} {k : Nat} {cy cy' : Int} {low : Nat} (h : CombRel xs ys m n N zs k cy) (hk : k < N) (hlow : low < 1000000000)
    (hm : -1000000000 < m ∧ m < 1000000000) (hn : -1000000000 < n ∧ n < 1000000000) (hx : Small xs) (hy : Small ys)
    (e : m * gl xs k + n * gl ys k + cy = low + 1000000000 * cy') : CombRel xs ys m n N (zs.set k low) (k + 1) cy' := by
  obtain ⟨h1, h2, h3, h4⟩ := h
  have b1 := mul_small hm.1 hm.2 (hx.gl k)
  have b2 := mul_small hn.1 hn.2 (hy.gl k)
  refine ⟨by rw [List.length_set, h1], h2.set hlow, by omega, ?_⟩
  rw [sumTo, sumTo, sumTo, sumTo_set (Nat.le_refl k), gl_set_same (by omega), Bp_succ]
  have e' := congrArg (fun t : Int => t * (Bp k : Int)) e
  simp only [Int.add_mul] at e'
  generalize gl xs k = x at *
  generalize gl ys k = y at *
  generalize hB : Bp k = B at *
  generalize sumTo (gl zs) k = S at *
  generalize sumTo (gl xs) k = X at *
  generalize sumTo (gl ys) k = Y at *
  have c1 : ((S + low * B : Nat) : Int) = S + low * B := by simp
  have c2 : ((X + x * B : Nat) : Int) = X + x * B := by simp
  have c3 : ((Y + y * B : Nat) : Int) = Y + y * B := by simp
  have c4 : ((1000000000 * B : Nat) : Int) = 1000000000 * B := by omega
  rw [c1, c2, c3, c4]
  grind
theorem CombRel.done {xs ys : List Nat} {m n : Int} {N : Nat} {zs : List Nat} {cy : Int} (h : CombRel xs ys m n N zs N cy) (h1 : xs.length ≤ N) (h2 : ys.length ≤ N) {T : Nat}
    (hT : (T : Int) = m * valL xs + n * valL ys) (hb : T < Bp N) : zs.length = N ∧ Small zs ∧ valL zs = T := by
  obtain ⟨g1, g2, g3, g4⟩ := h
  rw [valL_to h1, valL_to h2, ← hT] at g4
  have e : valL zs = sumTo (gl zs) N := by unfold valL; rw [g1]
  have hl := valL_lt g2
  rw [← e] at g4
  rw [g1] at hl
  refine ⟨g1, g2, ?_⟩
  have hP := Bp_pos N
  generalize Bp N = P at *
  generalize valL zs = V at *
  rcases (by omega : cy ≤ -1 ∨ cy = 0 ∨ 1 ≤ cy) with hc | hc | hc
  · have := Int.mul_le_mul_of_nonneg_right hc (show (0 : Int) ≤ P by omega)
    omega
  · rw [hc] at g4; omega
  · have := Int.mul_le_mul_of_nonneg_right hc (show (0 : Int) ≤ P by omega)
    omega
end Go.Proofs.YtcekdidefomkfaaDoor
