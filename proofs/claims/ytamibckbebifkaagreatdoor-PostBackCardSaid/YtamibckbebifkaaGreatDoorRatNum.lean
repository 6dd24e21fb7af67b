/- Plain fractions: two texts, num and den, in lowest terms, and the rational number that they are. Own work; no program text. -/
import Derived.Test.YtamibckbebifkaaGreatDoorAllApiW
namespace Go.Proofs.YtamibckbebifkaaGreatDoor

/-- The texts of a rational number. -/
def rdN (q : Rat) : List UInt8 := wd q.num
def rdD (q : Rat) : List UInt8 := dig q.den
def rd (q : Rat) : List UInt8 × List UInt8 := (rdN q, rdD q)
def isR (p : List UInt8 × List UInt8) : Bool := (isW p.1 && isNat p.2) && (!(valS p.2 == 0) && decide (Nat.gcd (valW p.1).natAbs (valS p.2) = 1))
def valR (p : List UInt8 × List UInt8) : Rat := mkRat (valW p.1) (valS p.2)
theorem isR_parts {p : List UInt8 × List UInt8} (h : isR p = true) : isW p.1 = true ∧ isNat p.2 = true ∧ valS p.2 ≠ 0 ∧ Nat.gcd (valW p.1).natAbs (valS p.2) = 1 := by
  unfold isR at h
  simp only [Bool.and_eq_true, decide_eq_true_eq, Bool.not_eq_true', beq_eq_false_iff_ne, ne_eq] at h
  exact ⟨h.1.1, h.1.2, h.2.1, h.2.2⟩
theorem isR_of {p : List UInt8 × List UInt8} (h1 : isW p.1 = true) (h2 : isNat p.2 = true) (h3 : valS p.2 ≠ 0) (h4 : Nat.gcd (valW p.1).natAbs (valS p.2) = 1) : isR p = true := by
  unfold isR
  rw [h1, h2, beq_false_of_ne h3, decide_eq_true h4]; rfl
theorem isR_rd (q : Rat) : isR (rd q) = true := by
  refine isR_of (isW_wd _) (isNat_dig _) ?_ ?_
  · show valS (dig q.den) ≠ 0
    rw [valS_dig]; exact q.den_nz
  · show Nat.gcd (valW (wd q.num)).natAbs (valS (dig q.den)) = 1
    rw [valW_wd, valS_dig]; exact q.reduced
theorem valR_rd (q : Rat) : valR (rd q) = q := by
  show mkRat (valW (wd q.num)) (valS (dig q.den)) = q
  rw [valW_wd, valS_dig, Rat.mkRat_self]
theorem rd_mk {n : Int} {d : Nat} (h : d ≠ 0) (hc : Nat.gcd n.natAbs d = 1) : rd (mkRat n d) = (wd n, dig d) := by
  have e : mkRat n d = ⟨n, d, h, hc⟩ := (Rat.mk_eq_mkRat n d h hc).symm
  unfold rd rdN rdD
  rw [e]
theorem rd_valR {p : List UInt8 × List UInt8} (h : isR p = true) : rd (valR p) = p := by
  obtain ⟨h1, h2, h3, h4⟩ := isR_parts h
  unfold valR
  rw [rd_mk h3 h4, wd_valW h1, dig_valS h2]
theorem valR_num {p : List UInt8 × List UInt8} (h : isR p = true) : (valR p).num = valW p.1 := by
  have e := congrArg (fun x => valW x.1) (rd_valR h)
  have e' : valW (wd (valR p).num) = valW p.1 := e
  rwa [valW_wd] at e'
theorem valR_den {p : List UInt8 × List UInt8} (h : isR p = true) : (valR p).den = valS p.2 := by
  have e := congrArg (fun x => valS x.2) (rd_valR h)
  have e' : valS (dig (valR p).den) = valS p.2 := e
  rwa [valS_dig] at e'
theorem rd_inj {p q : Rat} (h : rd p = rd q) : p = q := by rw [← valR_rd p, h, valR_rd]

/-- Num over den, in lowest terms, the sign ahead. -/
def makeR (n d : List UInt8) : (List UInt8 × List UInt8) × Bool := if (isW n && isW d) && !(valW d == 0) then (rd (Rat.divInt (valW n) (valW d)), true) else (([], []), false)
def negR (p : List UInt8 × List UInt8) : List UInt8 × List UInt8 := if isR p then rd (-valR p) else ([], [])
def sgnQ (q : Rat) : Int := if q.num < 0 then -1 else if q.num = 0 then 0 else 1
def sgnR (p : List UInt8 × List UInt8) : Int := if isR p then sgnQ (valR p) else 0
def cmpR (p q : List UInt8 × List UInt8) : Int := if isR p && isR q then sgnQ (valR p - valR q) else 0
def addR (p q : List UInt8 × List UInt8) : List UInt8 × List UInt8 := if isR p && isR q then rd (valR p + valR q) else ([], [])
def subR (p q : List UInt8 × List UInt8) : List UInt8 × List UInt8 := if isR p && isR q then rd (valR p - valR q) else ([], [])
def mulR (p q : List UInt8 × List UInt8) : List UInt8 × List UInt8 := if isR p && isR q then rd (valR p * valR q) else ([], [])
def divR (p q : List UInt8 × List UInt8) : (List UInt8 × List UInt8) × Bool := if (isR p && isR q) && !(valR q == 0) then (rd (valR p / valR q), true) else (([], []), false)
def splitR (p : List UInt8 × List UInt8) : List UInt8 × (List UInt8 × List UInt8) := if isR p then (wd (valR p).floor, rd (valR p - ((valR p).floor : Int))) else ([], ([], []))

/-- Num and den, both divided by their greatest common divisor, den above 0. -/
theorem divInt_pos {n d : Int} (hd : 0 < d) : (Rat.divInt n d).num = n / (Nat.gcd n.natAbs d.natAbs : Int) ∧ ((Rat.divInt n d).den : Int) = d / (Nat.gcd n.natAbs d.natAbs : Int) := by
  obtain ⟨e, rfl⟩ : ∃ e : Nat, d = (e : Int) := ⟨d.toNat, by omega⟩
  have he : e ≠ 0 := by omega
  rw [Rat.divInt_ofNat, Rat.num_mkRat, Rat.den_mkRat, if_neg he, if_neg he]
  have : ((e : Int)).natAbs = e := rfl
  rw [this, Nat.gcd_comm e]
  exact ⟨rfl, by rw [Int.natCast_ediv]⟩
theorem divInt_swap (n d : Int) : Rat.divInt (-n) (-d) = Rat.divInt n d := Rat.neg_divInt_neg n d
theorem divInt_cross_add (p q : Rat) : p + q = Rat.divInt (p.num * (q.den : Int) + q.num * (p.den : Int)) ((p.den : Int) * (q.den : Int)) := by
  rw [Rat.add_def', ← Rat.divInt_ofNat, Int.natCast_mul]
theorem divInt_cross_sub (p q : Rat) : p - q = Rat.divInt (p.num * (q.den : Int) - q.num * (p.den : Int)) ((p.den : Int) * (q.den : Int)) := by
  rw [Rat.sub_def', ← Rat.divInt_ofNat, Int.natCast_mul]
theorem divInt_cross_mul (p q : Rat) : p * q = Rat.divInt (p.num * q.num) ((p.den : Int) * (q.den : Int)) := by
  rw [Rat.mul_def', ← Rat.divInt_ofNat, Int.natCast_mul]
theorem divInt_cross_div (p q : Rat) : p / q = Rat.divInt (p.num * (q.den : Int)) ((p.den : Int) * q.num) := by
  rw [Rat.div_def, Rat.inv_def]
  conv => lhs; rw [← Rat.num_divInt_den p]
  rw [Rat.divInt_mul_divInt]
theorem ofInt_eq (n : Int) : (n : Rat) = Rat.divInt n 1 := by
  rw [show (1 : Int) = ((1 : Nat) : Int) from rfl, Rat.divInt_ofNat]
  have h := Rat.mkRat_self (n : Rat)
  rw [Rat.num_intCast, Rat.den_intCast] at h
  exact h.symm
end Go.Proofs.YtamibckbebifkaaGreatDoor
namespace Go.Proofs.YtamibckbebifkaaGreatDoor

theorem num_neg_iff (q : Rat) : q.num < 0 ↔ q < 0 := by
  rw [← Rat.not_le, ← Rat.num_nonneg]; omega
theorem sgnQ_neg {q : Rat} (h : q < 0) : sgnQ q = -1 := by unfold sgnQ; rw [if_pos ((num_neg_iff q).2 h)]
theorem sgnQ_zero : sgnQ 0 = 0 := rfl
theorem sgnQ_pos {q : Rat} (h : 0 < q) : sgnQ q = 1 := by
  have h1 : ¬ q.num < 0 := fun e => Rat.lt_irrefl (Rat.lt_of_le_of_ne (Rat.le_trans (Rat.le_of_lt ((num_neg_iff q).1 e)) (Rat.le_of_lt h)) (fun e2 => by
    have hq : q < 0 := (num_neg_iff q).1 e
    exact (Rat.not_lt.2 (Rat.le_of_lt h)) hq))
  have h2 : ¬ q.num = 0 := fun e => Rat.lt_irrefl (by rw [Rat.num_eq_zero.1 e] at h; exact h)
  unfold sgnQ
  rw [if_neg h1, if_neg h2]
theorem rat_cases (q : Rat) : q < 0 ∨ q = 0 ∨ 0 < q := by
  by_cases h : 0 ≤ q
  · by_cases e : q = 0
    · exact .inr (.inl e)
    · exact .inr (.inr (Rat.lt_of_le_of_ne h (fun e2 => e e2.symm)))
  · exact .inl (Rat.not_le.1 h)
theorem neg_pos_iff {q : Rat} : q < 0 ↔ 0 < -q := by
  have h := @Rat.neg_lt_neg_iff 0 q
  rw [Rat.neg_zero] at h
  exact h.symm
theorem sgnQ_negate (q : Rat) : sgnQ (-q) = -sgnQ q := by
  unfold sgnQ
  rw [Rat.neg_num]
  by_cases h1 : q.num < 0
  · rw [if_neg (by omega), if_neg (by omega), if_pos h1]; rfl
  · by_cases h2 : q.num = 0
    · rw [h2]; rfl
    · rw [if_pos (by omega), if_neg h1, if_neg h2]
theorem sgnQ_turn (p q : Rat) : sgnQ (q - p) = -sgnQ (p - q) := by rw [← sgnQ_negate, Rat.neg_sub]
theorem sgnQ_shift (p q r : Rat) : sgnQ ((p + r) - (q + r)) = sgnQ (p - q) := by
  congr 1
  grind
theorem sgnQ_bounds (q : Rat) : -1 ≤ sgnQ q ∧ sgnQ q ≤ 1 := by unfold sgnQ; split; decide; split <;> decide
theorem sgnQ_eq_zero {q : Rat} : sgnQ q = 0 ↔ q = 0 := by
  constructor
  · intro h
    rcases rat_cases q with h1 | h1 | h1
    · rw [sgnQ_neg h1] at h; cases h
    · exact h1
    · rw [sgnQ_pos h1] at h; cases h
  · rintro rfl; rfl
theorem sub_zero_iff {p q : Rat} : p - q = 0 ↔ p = q := by
  constructor
  · intro h; grind
  · rintro rfl; grind
theorem sgnQ_mul_pos {p r : Rat} (h : 0 < r) : sgnQ (p * r) = sgnQ p := by
  rcases rat_cases p with h1 | h1 | h1
  · have h2 : 0 < -p := neg_pos_iff.1 h1
    have h3 := Rat.mul_pos h2 h
    rw [Rat.neg_mul] at h3
    rw [sgnQ_neg h1, sgnQ_neg (neg_pos_iff.2 h3)]
  · subst h1; rw [Rat.zero_mul]
  · rw [sgnQ_pos h1, sgnQ_pos (Rat.mul_pos h1 h)]
theorem sgnQ_times (p q r : Rat) (h : 0 < r) : sgnQ (p * r - q * r) = sgnQ (p - q) := by
  have e : p * r - q * r = (p - q) * r := by grind
  rw [e, sgnQ_mul_pos h]
theorem half_left (x y : Rat) : sgnQ (x - (x + y) / 2) = sgnQ (x - y) := by
  have e : x - (x + y) / 2 = (x - y) * (1 / 2) := by grind
  rw [e, sgnQ_mul_pos (by grind)]
theorem half_right (x y : Rat) : sgnQ ((x + y) / 2 - y) = sgnQ (x - y) := by
  have e : (x + y) / 2 - y = (x - y) * (1 / 2) := by grind
  rw [e, sgnQ_mul_pos (by grind)]
theorem split_nonneg (x : Rat) : 0 ≤ sgnQ (x - ((x.floor : Int) : Rat)) := by
  have h := Rat.floor_le x
  rcases rat_cases (x - ((x.floor : Int) : Rat)) with h1 | h1 | h1
  · exfalso
    have h2 : x < ((x.floor : Int) : Rat) := by grind
    exact Rat.not_le.2 h2 h
  · rw [h1]; decide
  · rw [sgnQ_pos h1]; decide
theorem split_below (x : Rat) : sgnQ ((x - ((x.floor : Int) : Rat)) - 1) = -1 := by
  have h := Rat.lt_floor_add_one x
  refine sgnQ_neg ?_
  have e : ((x.floor + 1 : Int) : Rat) = ((x.floor : Int) : Rat) + 1 := by rw [Rat.intCast_add]; rfl
  rw [e] at h
  grind
theorem split_back (x : Rat) : ((x.floor : Int) : Rat) + (x - ((x.floor : Int) : Rat)) = x := by grind
end Go.Proofs.YtamibckbebifkaaGreatDoor
