/- nat.highest, nat.foresee: what the highest limbs tell of the divisions ahead. -/
import Derived.Deep.QuietTactic
import Derived.BigQuiet
import Derived.Test.YtcekdidefomkfaaDoorSum
import Derived.Test.YtcekdidefomkfaaDoorNumG
namespace Go.Proofs.YtcekdidefomkfaaDoor
open Go.RowKit

/-- x0 and y0 are the highest places of A and B, by one and the same scale. -/
def Hi (A B : Nat) (x0 y0 : Int) : Prop :=
  (0 ≤ x0 ∧ x0 < 1000000000000000000) ∧ (0 ≤ y0 ∧ y0 < 1000000000000000000) ∧
    ∃ K R p r : Int, 1 ≤ K ∧ 1 ≤ R ∧ K * A = x0 * R + p ∧ K * B = y0 * R + r ∧ 0 ≤ p ∧ p ≤ R ∧ 0 ≤ r ∧ r ≤ R
theorem high_val {xs : List Nat} {s : Nat} (h : xs.length ≤ s + 2) : (valL xs : Int) = ((gl xs (s + 1) : Int) * 1000000000 + gl xs s) * Bp s + sumTo (gl xs) s := by
  rw [← valL_to h, sumTo, sumTo, Bp_succ]
  generalize sumTo (gl xs) s = S
  generalize gl xs (s + 1) = a
  generalize gl xs s = b
  generalize Bp s = B
  have e : ((S + b * B + a * (1000000000 * B) : Nat) : Int) = S + b * B + a * (1000000000 * B) := by
    have c4 : ((1000000000 * B : Nat) : Int) = 1000000000 * B := by omega
    rw [Int.natCast_add, Int.natCast_add, Int.natCast_mul, Int.natCast_mul, c4]
  rw [e]
  grind
theorem Hi.make {xs ys : List Nat} {t : Nat} (hx : Small xs) (hy : Small ys) (h1 : xs.length ≤ t + 1) (h2 : ys.length ≤ t + 1) :
    Hi (valL xs) (valL ys) ((gl xs t : Int) * 1000000000 + atL xs ((t : Int) - 1)) ((gl ys t : Int) * 1000000000 + atL ys ((t : Int) - 1)) := by
  have a1 := hx.gl t
  have a2 := hy.gl t
  have a3 := atL_lt hx ((t : Int) - 1)
  have a4 := atL_lt hy ((t : Int) - 1)
  refine ⟨⟨by omega, by omega⟩, ⟨by omega, by omega⟩, ?_⟩
  cases t with
  | zero =>
    have z : ∀ zs : List Nat, zs.length ≤ 1 → (1000000000 : Int) * valL zs = ((gl zs 0 : Int) * 1000000000 + atL zs (((0 : Nat) : Int) - 1)) * 1 + 0 := fun zs hz => by
      have e1 : valL zs = gl zs 0 := by
        rw [← valL_to hz, sumTo, sumTo, Bp_zero]; omega
      have e2 : atL zs (((0 : Nat) : Int) - 1) = 0 := by unfold atL; rw [if_pos (by omega)]
      rw [e1, e2]; omega
    exact ⟨1000000000, 1, 0, 0, by omega, by omega, z xs h1, z ys h2, by omega, by omega, by omega, by omega⟩
  | succ s =>
    have e : ∀ zs, atL zs (((s + 1 : Nat) : Int) - 1) = gl zs s := fun zs => by
      rw [show ((s + 1 : Nat) : Int) - 1 = (s : Int) from by omega, atL_nat]
    rw [e, e]
    have l1 := sumTo_lt (f := gl xs) (k := s) (fun j _ => hx.gl j)
    have l2 := sumTo_lt (f := gl ys) (k := s) (fun j _ => hy.gl j)
    have l3 := Bp_pos s
    exact ⟨1, Bp s, sumTo (gl xs) s, sumTo (gl ys) s, by omega, by omega, by rw [Int.one_mul]; exact high_val h1, by rw [Int.one_mul]; exact high_val h2, by omega, by omega, by omega, by omega⟩

set_option maxRecDepth 100000 in
set_option maxHeartbeats 400000 in
theorem highest_any (w : World) (va vb : Value) (A B : Nat) (ha : LimN w va A) (hb : LimN w vb B) (hA : Big A) (hB : Big B) (hB0 : 0 < B) :
    Calls Tryd.prog 102 #[va, vb] w fun e w' => ∃ x0 y0 : Int, e = .returned (.tuple #[.int .i64 x0, .int .i64 y0]) ∧ Hi A B x0 y0 ∧ w = w' := by
  obtain ⟨xs, la, na, rfl⟩ := ha
  obtain ⟨ys, lb, nb, rfl⟩ := hb
  have b1 := na.big hA
  have b2 := nb.big hB
  clear hA hB
  have hy0 : 0 < ys.length := by
    rcases Nat.eq_zero_or_pos ys.length with h | h
    · rw [List.length_eq_zero_iff.1 h, valL_nil] at hB0; omega
    · exact h
  clear hB0
  obtain ⟨aa, ca, rfl⟩ := la.form
  obtain ⟨ab, cb, rfl⟩ := lb.form
  have hsx := la.1
  have hsy := lb.1
  have hmm : ∃ t, xs.length ≤ t + 1 ∧ ys.length ≤ t + 1 ∧ t ≤ 1073741824 ∧ ((t + 1 = ys.length ∧ xs.length < t + 1) ∨ (t + 1 = xs.length ∧ ys.length ≤ t + 1)) := by
    rcases Nat.lt_or_ge xs.length ys.length with h | h
    · exact ⟨ys.length - 1, by omega, by omega, by omega, .inl ⟨by omega, by omega⟩⟩
    · exact ⟨xs.length - 1, by omega, by omega, by omega, .inr ⟨by omega, by omega⟩⟩
  obtain ⟨t, hx, hy, hb, hcase⟩ := hmm
  have hhi := Hi.make hsx hsy hx hy
  have HH := Lib.hid hhi; clear hhi
  clear b1 b2
  have a1 := hsx.gl t
  have a2 := hsy.gl t
  have a3 := atL_lt hsx ((t : Int) - 1)
  have a4 := atL_lt hsy ((t : Int) - 1)
  clear hx hy
  obtain ⟨x0, hx0⟩ : ∃ x0 : Int, (gl xs t : Int) * 1000000000 + (atL xs ((t : Int) - 1) : Int) = x0 := ⟨_, rfl⟩
  obtain ⟨y0, hy0'⟩ : ∃ y0 : Int, (gl ys t : Int) * 1000000000 + (atL ys ((t : Int) - 1) : Int) = y0 := ⟨_, rfl⟩
  rw [hx0, hy0'] at HH
  obtain ⟨z1, hz1⟩ : ∃ z1 : Int, (gl xs t : Int) * 1000000000 = z1 := ⟨_, rfl⟩
  obtain ⟨z2, hz2⟩ : ∃ z2 : Int, (gl ys t : Int) * 1000000000 = z2 := ⟨_, rfl⟩
  rw [hz1] at hx0
  rw [hz2] at hy0'
  have n1 : 0 ≤ z1 := by omega
  have n2 : z1 < 1000000000000000000 := by omega
  have n3 : 0 ≤ z2 := by omega
  have n4 : z2 < 1000000000000000000 := by omega
  have n5 : 0 ≤ x0 := by omega
  have n6 : x0 < 1000000000000000000 := by omega
  have n7 : 0 ≤ y0 := by omega
  have n8 : y0 < 1000000000000000000 := by omega
  rcases hcase with ⟨hN, hlt⟩ | ⟨hN, hlt⟩
  all_goals
    have hN' := hN.symm
    clear hN
    (first | rw [hN'] at la ⊢ | rw [hN'] at lb ⊢)
    have LA := Lib.hid la
    have LB := Lib.hid lb
    clear la lb hN'
    go_enter Tryd.func102, Tryd.ntmps102
    go_wp2_with fail
    refine (at_nat _ _ _ t LA.out (by omega)).mono ?_
    rintro e w' ⟨rfl, rfl⟩
    go_wp2_with fail
    refine (at_any _ _ _ ((t : Int) - 1) LA.out (by omega) (by omega)).mono ?_
    rintro e w' ⟨rfl, rfl⟩
    go_wp2_with fail
    refine (at_nat _ _ _ t LB.out (by omega)).mono ?_
    rintro e w' ⟨rfl, rfl⟩
    go_wp2_with fail
    refine (at_any _ _ _ ((t : Int) - 1) LB.out (by omega) (by omega)).mono ?_
    rintro e w' ⟨rfl, rfl⟩
    go_wp2_with fail
    go_ret2
    exact ⟨_, _, rfl, HH.out, rfl⟩

/-- Four coefficients in a block of their own. -/
abbrev St (a b c d : Int) : Obj := Obj.cells #[.int .i64 a, .int .i64 b, .int .i64 c, .int .i64 d] 73
theorem info_steps : (Tryd.prog.info? 73).map (·.size) = some 4 := by kernel_rfl
theorem steps_ret (w : World) (tmps : Array Value) (a b c d : Int) (Y : Obj) (hp : tmps.getD 4 undef = .pointer (some ⟨w.heap.size, 0, none⟩)) :
    (results Tryd.f86 tmps).run Tryd.prog ((w.alloc (St a b c d)).alloc Y) = .ok (.agg #[.int .i64 a, .int .i64 b, .int .i64 c, .int .i64 d]) ((w.alloc (St a b c d)).alloc Y) :=
  results_cell_row rfl tmps _ w.heap.size 73 _ (0, 0) _ hp ((by show ((w.heap.push _).push _)[w.heap.size]? = _; rw [Array.getElem?_push, if_neg (by simp)]; simp) : ((w.alloc (St a b c d)).alloc Y).heap[w.heap.size]? = some (St a b c d)) Tryd.underlying73 rfl info_steps
theorem steps_below (w : World) (X Y : Obj) : Below w.heap.size w ((w.alloc X).alloc Y) :=
  ((Below.refl _ w).alloc (Nat.le_refl _) X).alloc (by show w.heap.size ≤ (w.heap.push X).size; simp) Y
/-- What foresee tells: nothing, or many divisions at once. -/
def Told (A B : Nat) (a b c d : Int) : Prop :=
  b = 0 ∨ ((-1000000000 < a ∧ a < 1000000000) ∧ (-1000000000 < b ∧ b < 1000000000) ∧ (-1000000000 < c ∧ c < 1000000000) ∧ (-1000000000 < d ∧ d < 1000000000) ∧ (a * d - b * c = 1 ∨ a * d - b * c = -1) ∧
    0 ≤ a * A + b * B ∧ 0 ≤ c * A + d * B ∧ a * A + b * B ≤ B ∧ c * A + d * B < B)
/-- Where the loop stands. -/
def FoI (A B : Nat) (x0 y0 a b c d x y : Int) : Prop := ∃ K R p r : Int, 1 ≤ K ∧ 1 ≤ R ∧ K * A = x0 * R + p ∧ K * B = y0 * R + r ∧ 0 ≤ p ∧ p ≤ R ∧ 0 ≤ r ∧ r ≤ R ∧ x0 < 1000000000000000000 ∧ y0 < 1000000000000000000 ∧ Fo (K * A) (K * B) x0 y0 a b c d x y
theorem FoI.start {A B : Nat} {x0 y0 : Int} (h : Hi A B x0 y0) : FoI A B x0 y0 1 0 0 1 x0 y0 := by
  obtain ⟨hx, hy, K, R, p, r, h1, h2, h3, h4, h5, h6, h7, h8⟩ := h
  exact ⟨K, R, p, r, h1, h2, h3, h4, h5, h6, h7, h8, hx.2, hy.2, Fo.start (Int.mul_nonneg (by omega) (by omega)) (Int.mul_nonneg (by omega) (by omega)) hx hy⟩
theorem FoI.told {A B : Nat} {x0 y0 a b c d x y : Int} (h : FoI A B x0 y0 a b c d x y) : Told A B a b c d := by
  obtain ⟨K, R, p, r, h1, h2, h3, h4, h5, h6, h7, h8, _, _, hf⟩ := h
  obtain ⟨ex, ey, sg, ba, bb, bc, bd, bx, bY, pa, pb, pc, pd, nA, nB, tr⟩ := hf
  rcases tr with ⟨_, hb, _⟩ | ⟨t1, t2⟩
  · exact .inl hb
  · have e1 : a * (K * A) + b * (K * B) = K * (a * A + b * B) := by grind
    have e2 : c * (K * A) + d * (K * B) = K * (c * A + d * B) := by grind
    rw [e1] at nA t1
    rw [e2] at nB t2
    have hK : 0 < K := by omega
    exact .inr ⟨ba, bb, bc, bd, by rcases sg with s | s <;> omega, Int.nonneg_of_mul_nonneg_right nA hK, Int.nonneg_of_mul_nonneg_right nB hK, Int.le_of_mul_le_mul_left t1 hK, Int.lt_of_mul_lt_mul_left t2 (by omega)⟩
theorem tdiv_range {n m : Int} (h : 0 ≤ n) (hm : 0 < m) : 0 ≤ n.tdiv m ∧ n.tdiv m ≤ n := by
  rw [Int.tdiv_eq_ediv_of_nonneg h]
  exact ⟨Int.ediv_nonneg h (by omega), Int.ediv_le_self _ h⟩
theorem FoI.step {A B : Nat} {x0 y0 a b c d x y q : Int} (h : FoI A B x0 y0 a b c d x y) (hc : 0 < y + c) (hd : 0 < y + d) (hq1 : (x + a).tdiv (y + c) = q) (hq2 : (x + b).tdiv (y + d) = q) :
    FoI A B x0 y0 c d (a - q * c) (b - q * d) y (x - q * y) ∧ x - q * y < y ∧ 0 ≤ x - q * y ∧ (-1000000000 < q * c ∧ q * c < 1000000000) ∧ (-1000000000 < q * d ∧ q * d < 1000000000) ∧ (0 ≤ q * y ∧ q * y < 1000000000000000000) ∧
      (-1000000000 < a - q * c ∧ a - q * c < 1000000000) ∧ (-1000000000 < b - q * d ∧ b - q * d < 1000000000) ∧ 0 ≤ q ∧ q ≤ 1000000001000000000 := by
  obtain ⟨K, R, p, r, h1, h2, h3, h4, h5, h6, h7, h8, h9, h10, hf⟩ := h
  have pa := hf.pa
  have pb := hf.pb
  have bx := hf.bx
  have ba := hf.ba
  rw [Int.tdiv_eq_ediv_of_nonneg pa] at hq1
  rw [Int.tdiv_eq_ediv_of_nonneg pb] at hq2
  have hle : q ≤ x + a := by rw [← hq1]; exact Int.ediv_le_self _ pa
  obtain ⟨s1, s2, s3, s4, s5, s6, s7⟩ := hf.step h3 h4 h2 h5 h6 h7 h8 h9 h10 (by omega) (by omega) hq1.symm hq2.symm
  exact ⟨⟨K, R, p, r, h1, h2, h3, h4, h5, h6, h7, h8, h9, h10, s1⟩, s2, s1.bY.1, s4, s5, ⟨s6, s7⟩, s1.bc, s1.bd, s3, by omega⟩

set_option maxRecDepth 100000 in
set_option maxHeartbeats 1000000 in
theorem foresee_any (w : World) (va vb : Value) (A B : Nat) (ha : LimN w va A) (hb : LimN w vb B) (hA : Big A) (hB : Big B) (hB0 : 0 < B) :
    Calls Tryd.prog 86 #[va, vb] w fun e w' => ∃ a b c d : Int, e = .returned (.agg #[.int .i64 a, .int .i64 b, .int .i64 c, .int .i64 d]) ∧ Told A B a b c d ∧ Below w.heap.size w w' := by
  have hb1 : Below w.heap.size w (w.alloc (St 0 0 0 0)) := (Below.refl _ _).alloc (Nat.le_refl _) _
  have c1 := highest_any _ va vb A B (ha.below hb1) (hb.below hb1) hA hB hB0
  clear ha hb hA hB hb1
  go_enter Tryd.func86, Tryd.ntmps86
  go_wp2_with fail
  refine c1.mono ?_
  rintro e w' ⟨x0, y0, rfl, hhi, rfl⟩
  clear c1
  have hst := FoI.start hhi
  go_wp2_with fail
  go_loopw [5, 6] (fun xv yv wr => ∃ a b c d x y : Int, xv = .int .i64 x ∧ yv = .int .i64 y ∧ FoI A B x0 y0 a b c d x y ∧ wr = (w.alloc (St 0 0 0 0)).alloc (St a b c d)) (fun _ yv _ => (intOf yv).toNat)
  case atStart => exact ⟨1, 0, 0, 1, x0, y0, rfl, rfl, hst, rfl⟩
  case round =>
    clear hst
    obtain ⟨a, b, c, d, x, y, rfl, rfl, hI, rfl⟩ := hrel
    have HI := Lib.hid hI
    obtain ⟨K, R, p, r, h1, h2, h3, h4, h5, h6, h7, h8, h9, h10, hf⟩ := hI
    obtain ⟨xl, xu⟩ := hf.bx
    obtain ⟨yl, yu⟩ := hf.bY
    obtain ⟨al, au⟩ := hf.ba
    obtain ⟨bl, bu⟩ := hf.bb
    obtain ⟨cl, cu⟩ := hf.bc
    obtain ⟨dl, du⟩ := hf.bd
    have pa := hf.pa
    have pb := hf.pb
    have pc := hf.pc
    have pd := hf.pd
    have HF := Lib.hid hf
    clear hf h1 h2 h3 h4 h5 h6 h7 h8 h9 h10
    by_cases hc : y + c = 0
    · go_wp2
      exact bodyPost_ret (steps_ret w _ a b c d _ rfl) rfl ⟨a, b, c, d, rfl, HI.out.told, steps_below _ _ _⟩
    · have hcb : (y + c != 0) = true := by simp [hc]
      by_cases hd : y + d = 0
      · have hdb : (y + d != 0) = false := by simp [hd]
        go_wp2
        exact bodyPost_ret (steps_ret w _ a b c d _ rfl) rfl ⟨a, b, c, d, rfl, HI.out.told, steps_below _ _ _⟩
      · have hdb : (y + d != 0) = true := by simp [hd]
        obtain ⟨q, hq⟩ : ∃ q, (x + a).tdiv (y + c) = q := ⟨_, rfl⟩
        obtain ⟨q2, hq2⟩ : ∃ q2, (x + b).tdiv (y + d) = q2 := ⟨_, rfl⟩
        have p1 : 0 < y + c := by omega
        have p2 : 0 < y + d := by omega
        by_cases hqq : q = q2
        · subst hqq
          have hs := HI.out.step p1 p2 hq hq2
          obtain ⟨s1, s2, s3, ⟨s4, s4'⟩, ⟨s5, s5'⟩, ⟨s6, s6'⟩, ⟨s7, s7'⟩, ⟨s8, s8'⟩, s9, s10⟩ := hs
          have HS := Lib.hid s1
          clear s1
          go_wp2
          go_roundw
          case rel => exact ⟨_, _, _, _, _, _, rfl, rfl, HS.out, rfl⟩
          case measure => simp [intOf]; omega
        · obtain ⟨r1, r2⟩ := tdiv_range pa p1
          obtain ⟨r3, r4⟩ := tdiv_range pb p2
          rw [hq] at r1 r2
          rw [hq2] at r3 r4
          have r5 : q ≤ 1000000001000000000 := by omega
          have r6 : q2 ≤ 1000000001000000000 := by omega
          have hqb : (q != q2) = true := by simp [hqq]
          clear r2 r4
          go_wp2
          exact bodyPost_ret (steps_ret w _ a b c d _ rfl) rfl ⟨a, b, c, d, rfl, HI.out.told, steps_below _ _ _⟩
end Go.Proofs.YtcekdidefomkfaaDoor
