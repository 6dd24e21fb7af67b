/- Plain numbers: limbs into digits. Own work; no program text. -/
import Derived.Test.YtcekdidefomkfaaDoorNumR
namespace Go.Proofs.YtcekdidefomkfaaDoor

/-- The q-th digit from behind of a row of limbs. -/
def dgt (xs : List Nat) (q : Nat) : Nat := gl xs (q / 9) / 10 ^ (q % 9) % 10
theorem dgt_lt (xs : List Nat) (q : Nat) : dgt xs q < 10 := Nat.mod_lt _ (by decide)
theorem dgt_at (xs : List Nat) {k p : Nat} (hp : p < 9) : dgt xs (9 * k + p) = gl xs k / 10 ^ p % 10 := by
  unfold dgt
  rw [show (9 * k + p) / 9 = k from by omega, show (9 * k + p) % 9 = p from by omega]

/-- The text of n digits, the highest first. -/
def txt (f : Nat → Nat) : Nat → List UInt8
  | 0 => []
  | n + 1 => UInt8.ofNat (48 + f n) :: txt f n
theorem txt_length (f : Nat → Nat) (n : Nat) : (txt f n).length = n := by
  induction n with
  | zero => rfl
  | succ n ih => simp [txt, ih]
theorem gb_txt (f : Nat → Nat) {n j : Nat} (hj : j < n) : gb (txt f n) j = UInt8.ofNat (48 + f (n - 1 - j)) := by
  induction n generalizing j with
  | zero => omega
  | succ n ih =>
    cases j with
    | zero => simp [txt, gb]
    | succ j =>
      have := ih (j := j) (by omega)
      rw [show n + 1 - 1 - (j + 1) = n - 1 - j from by omega, ← this]
      simp [txt, gb]
theorem toNat_dg {d : Nat} (h : d < 10) : (UInt8.ofNat (48 + d)).toNat = 48 + d := by
  rw [UInt8.toNat_ofNat']; omega
theorem txt_all {f : Nat → Nat} (hf : ∀ q, f q < 10) (n : Nat) : (txt f n).all isDig = true := by
  induction n with
  | zero => rfl
  | succ n ih =>
    have h := hf n
    rw [txt, List.all_cons, ih, Bool.and_true]
    unfold isDig
    rw [toNat_dg h]
    simp only [Bool.and_eq_true, decide_eq_true_eq]
    omega

/-- Digits, summed up. -/
def dsum (f : Nat → Nat) : Nat → Nat
  | 0 => 0
  | n + 1 => f n * 10 ^ n + dsum f n
theorem valS_cons (c : UInt8) (r : List UInt8) : valS (c :: r) = (c.toNat - 48) * 10 ^ r.length + valS r := by
  have h := valS_append [c] r
  have h1 : valS [c] = c.toNat - 48 := by show 10 * 0 + (c.toNat - 48) = _; omega
  rw [h1] at h
  exact h
theorem valS_txt {f : Nat → Nat} (hf : ∀ q, f q < 10) (n : Nat) : valS (txt f n) = dsum f n := by
  induction n with
  | zero => rfl
  | succ n ih =>
    rw [txt, valS_cons, ih, txt_length, toNat_dg (hf n), dsum]
    congr 2
    omega
theorem nine_digits {x : Nat} (h : x < 1000000000) :
    x / 100000000 % 10 * 100000000 + (x / 10000000 % 10 * 10000000 + (x / 1000000 % 10 * 1000000 + (x / 100000 % 10 * 100000 + (x / 10000 % 10 * 10000 + (x / 1000 % 10 * 1000 + (x / 100 % 10 * 100 + (x / 10 % 10 * 10 + x % 10))))))) = x := by
  have e1 : x / 100 = x / 10 / 10 := by rw [Nat.div_div_eq_div_mul]
  have e2 : x / 1000 = x / 100 / 10 := by rw [Nat.div_div_eq_div_mul]
  have e3 : x / 10000 = x / 1000 / 10 := by rw [Nat.div_div_eq_div_mul]
  have e4 : x / 100000 = x / 10000 / 10 := by rw [Nat.div_div_eq_div_mul]
  have e5 : x / 1000000 = x / 100000 / 10 := by rw [Nat.div_div_eq_div_mul]
  have e6 : x / 10000000 = x / 1000000 / 10 := by rw [Nat.div_div_eq_div_mul]
  have e7 : x / 100000000 = x / 10000000 / 10 := by rw [Nat.div_div_eq_div_mul]
  have h7 : x / 100000000 < 10 := by omega
  generalize x / 100000000 = y8 at *
  generalize x / 10000000 = y7 at *
  generalize x / 1000000 = y6 at *
  generalize x / 100000 = y5 at *
  generalize x / 10000 = y4 at *
  generalize x / 1000 = y3 at *
  generalize x / 100 = y2 at *
  generalize hy1 : x / 10 = y1 at *
  omega
theorem dsum_limbs {xs : List Nat} (hs : Small xs) (k : Nat) : dsum (dgt xs) (9 * k) = sumTo (gl xs) k := by
  induction k with
  | zero => rfl
  | succ k ih =>
    have hx := hs.gl k
    have hp : ∀ p, 10 ^ (9 * k + p) = Bp k * 10 ^ p := fun p => by rw [Nat.pow_add, pow_nine]
    have hd0 : dgt xs (9 * k) = gl xs k / 10 ^ 0 % 10 := dgt_at xs (p := 0) (by decide)
    have hp0 : 10 ^ (9 * k) = Bp k * 10 ^ 0 := hp 0
    have h9 := nine_digits hx
    rw [show 9 * (k + 1) = 9 * k + 8 + 1 from by omega, dsum, dgt_at xs (by decide), hp,
      show 9 * k + 8 = 9 * k + 7 + 1 from rfl, dsum, dgt_at xs (by decide), hp,
      show 9 * k + 7 = 9 * k + 6 + 1 from rfl, dsum, dgt_at xs (by decide), hp,
      show 9 * k + 6 = 9 * k + 5 + 1 from rfl, dsum, dgt_at xs (by decide), hp,
      show 9 * k + 5 = 9 * k + 4 + 1 from rfl, dsum, dgt_at xs (by decide), hp,
      show 9 * k + 4 = 9 * k + 3 + 1 from rfl, dsum, dgt_at xs (by decide), hp,
      show 9 * k + 3 = 9 * k + 2 + 1 from rfl, dsum, dgt_at xs (by decide), hp,
      show 9 * k + 2 = 9 * k + 1 + 1 from rfl, dsum, dgt_at xs (by decide), hp,
      dsum, hd0, hp0, ih, sumTo]
    generalize gl xs k = x at *
    generalize Bp k = B at *
    generalize sumTo (gl xs) k = S at *
    have e0 : 10 ^ 0 = 1 := rfl
    have e1 : 10 ^ 1 = 10 := rfl
    have e2 : 10 ^ 2 = 100 := rfl
    have e3 : 10 ^ 3 = 1000 := rfl
    have e4 : 10 ^ 4 = 10000 := rfl
    have e5 : 10 ^ 5 = 100000 := rfl
    have e6 : 10 ^ 6 = 1000000 := rfl
    have e7 : 10 ^ 7 = 10000000 := rfl
    have e8 : 10 ^ 8 = 100000000 := rfl
    rw [e0, e1, e2, e3, e4, e5, e6, e7, e8, Nat.div_one]
    have hm : ∀ a t : Nat, a * (B * t) = B * (a * t) := fun a t => Nat.mul_left_comm a B t
    rw [hm, hm, hm, hm, hm, hm, hm, hm, hm, Nat.mul_one, Nat.mul_comm x B]
    conv => rhs; rw [← h9]
    simp only [Nat.mul_add]
    omega
theorem valS_limbs {xs : List Nat} (hs : Small xs) : valS (txt (dgt xs) (9 * xs.length)) = valL xs := by
  rw [valS_txt (dgt_lt xs), dsum_limbs hs]; rfl

/-- Zeros ahead gone, digits are those of their number. -/
theorem valS_dropZeros (l : List UInt8) : valS (l.dropWhile (· == 48)) = valS l := by
  induction l with
  | nil => rfl
  | cons c r ih =>
    rw [List.dropWhile_cons]
    by_cases h : c = 48
    · subst h
      rw [if_pos (by decide), ih, valS_cons]
      have : (48 : UInt8).toNat - 48 = 0 := rfl
      rw [this]; omega
    · rw [if_neg (by simpa using h)]
theorem all_dropZeros {l : List UInt8} (h : l.all isDig = true) : (l.dropWhile (· == 48)).all isDig = true := by
  rw [List.all_eq_true] at h ⊢
  exact fun c hc => h c ((List.dropWhile_sublist _).subset hc)
theorem head_dropZeros (l : List UInt8) : (l.dropWhile (· == 48)).head? ≠ some 48 := by
  induction l with
  | nil => simp
  | cons c r ih =>
    rw [List.dropWhile_cons]
    by_cases h : c = 48
    · subst h; rw [if_pos (by decide)]; exact ih
    · rw [if_neg (by simpa using h)]; simpa using h
theorem dropZeros_dig {l : List UInt8} (h : l.all isDig = true) (hv : 0 < valS l) : l.dropWhile (· == 48) = dig (valS l) := by
  have h1 := valS_dropZeros l
  have h2 := all_dropZeros h
  have h3 := head_dropZeros l
  have hn : isNat (l.dropWhile (· == 48)) = true := by
    unfold isNat
    rw [h2, Bool.and_true, Bool.and_eq_true]
    refine ⟨?_, ?_⟩
    · cases he : l.dropWhile (· == 48) with
      | nil => rw [he] at h1; have : valS [] = 0 := rfl; omega
      | cons c r => rfl
    · have : ((l.dropWhile (· == 48)).head? == some 48) = false := by simpa using h3
      rw [this]; rfl
  rw [← dig_valS hn, h1]
end Go.Proofs.YtcekdidefomkfaaDoor
