/- Plain whole numbers: texts of digits with a sign. Own work; no program text. -/
import Derived.Lib.Strings
import Derived.Laws.Concat
import Derived.Test.YtmllklfjngapiaaDoorAllApi
import Derived.Test.YtmllklfjngapiaaDoorShelf
namespace Go.Proofs.YtmllklfjngapiaaDoor

def wd (z : Int) : List UInt8 := if z < 0 then 45 :: dig z.natAbs else dig z.natAbs
def isW : List UInt8 → Bool
  | [] => false
  | c :: r => if c = 45 then isNat r && !(r == [48]) else isNat (c :: r)
def valW : List UInt8 → Int
  | [] => 0
  | c :: r => if c = 45 then -(valS r : Int) else (valS (c :: r) : Int)
theorem isW_cons (c : UInt8) (r : List UInt8) : isW (c :: r) = if c = 45 then isNat r && !(r == [48]) else isNat (c :: r) := rfl
theorem valW_cons (c : UInt8) (r : List UInt8) : valW (c :: r) = if c = 45 then -(valS r : Int) else (valS (c :: r) : Int) := rfl
theorem wd_neg {z : Int} (h : z < 0) : wd z = 45 :: dig z.natAbs := by unfold wd; rw [if_pos h]
theorem wd_pos {z : Int} (h : 0 ≤ z) : wd z = dig z.natAbs := by unfold wd; rw [if_neg (by omega)]
theorem wd_nat (n : Nat) : wd (n : Int) = dig n := by rw [wd_pos (by omega)]; rfl
theorem dig_cons (n : Nat) : ∃ c r, dig n = c :: r ∧ c ≠ 45 := by
  have ha := dig_all n
  have hn := dig_ne n
  cases h : dig n with
  | nil => exact absurd h hn
  | cons c r =>
    refine ⟨c, r, rfl, ?_⟩
    rw [h, List.all_cons, Bool.and_eq_true] at ha
    intro e
    subst e
    exact absurd ha.1 (by decide)
theorem isW_dig (n : Nat) : isW (dig n) = true := by
  obtain ⟨c, r, h, hc⟩ := dig_cons n
  have := isNat_dig n
  rw [h] at this ⊢
  rw [isW_cons]
  rw [if_neg hc, this]
theorem valW_dig (n : Nat) : valW (dig n) = (n : Int) := by
  obtain ⟨c, r, h, hc⟩ := dig_cons n
  have := valS_dig n
  rw [h] at this ⊢
  rw [valW_cons]
  rw [if_neg hc, this]
theorem isW_wd (z : Int) : isW (wd z) = true := by
  rcases Int.lt_or_le z 0 with h | h
  · rw [wd_neg h]
    rw [isW_cons]
    rw [if_pos rfl, isNat_dig, dig_neB (by omega)]; rfl
  · rw [wd_pos h]; exact isW_dig _
theorem valW_wd (z : Int) : valW (wd z) = z := by
  rcases Int.lt_or_le z 0 with h | h
  · rw [wd_neg h]
    rw [valW_cons]
    rw [if_pos rfl, valS_dig]; omega
  · rw [wd_pos h, valW_dig]; omega
/-- A whole number is a natural, or a sign and one that is not 0. -/
theorem isW_cases {l : List UInt8} (h : isW l = true) : (isNat l = true ∧ valW l = (valS l : Int)) ∨ ∃ r, l = 45 :: r ∧ isNat r = true ∧ r ≠ [48] ∧ valW l = -(valS r : Int) := by
  cases l with
  | nil => cases h
  | cons c r =>
    by_cases hc : c = 45
    · subst hc
      rw [isW_cons] at h
      rw [if_pos rfl, Bool.and_eq_true] at h
      refine .inr ⟨r, rfl, h.1, ?_, ?_⟩
      · intro e; subst e; exact absurd h.2 (by decide)
      · rw [valW_cons, if_pos rfl]
    · rw [isW_cons] at h
      rw [if_neg hc] at h
      refine .inl ⟨h, ?_⟩
      rw [valW_cons, if_neg hc]
theorem wd_valW {l : List UInt8} (h : isW l = true) : wd (valW l) = l := by
  rcases isW_cases h with ⟨h1, h2⟩ | ⟨r, rfl, h1, h2, h3⟩
  · rw [h2, wd_nat, dig_valS h1]
  · have h0 : valS r ≠ 0 := fun e => h2 (nat_zero h1 e)
    rw [h3, wd_neg (by omega)]
    congr 1
    rw [show (-(valS r : Int)).natAbs = valS r from by omega, dig_valS h1]
theorem wd_inj {a b : Int} (h : wd a = wd b) : a = b := by rw [← valW_wd a, h, valW_wd]
theorem wd_beq {a b : Int} (h : a ≠ b) : (wd a == wd b) = false := beq_false_of_ne (fun e => h (wd_inj e))
theorem wd_ne (z : Int) : wd z ≠ [] := by
  rcases Int.lt_or_le z 0 with h | h
  · rw [wd_neg h]; simp
  · rw [wd_pos h]; exact dig_ne _
theorem wd_e (z : Int) : (wd z).isEmpty = false := by rw [List.isEmpty_eq_false_iff]; exact wd_ne z
theorem wd_len {l : List UInt8} (h : isW l = true) : (dig (valW l).natAbs).length ≤ l.length := by
  have e := wd_valW h
  rcases Int.lt_or_le (valW l) 0 with h0 | h0
  · rw [wd_neg h0] at e
    have := congrArg List.length e
    rw [List.length_cons] at this; omega
  · rw [wd_pos h0] at e
    rw [e]; exact Nat.le_refl _

/-- A number's sign and amount. -/
def apW (l : List UInt8) : Bool × List UInt8 := if isW l then (decide (valW l < 0), dig (valW l).natAbs) else (false, [])
/-- A sign ahead of an amount. -/
def sgW (b : Bool) (l : List UInt8) : List UInt8 := if b && (!(l == []) && !(l == [48])) then 45 :: l else l
def sv (b : Bool) (n : Nat) : Int := if b then -(n : Int) else (n : Int)
theorem sgW_dig (b : Bool) (n : Nat) : sgW b (dig n) = wd (sv b n) := by
  unfold sgW sv
  have h1 : (dig n == []) = false := beq_false_of_ne (dig_ne n)
  rw [h1]
  cases b with
  | false => simp [wd_nat]
  | true =>
    by_cases h0 : n = 0
    · subst h0
      rw [dig_0]; simp
      unfold wd; simp [dig_0]
    · rw [dig_neB h0]
      simp only [Bool.not_false, Bool.and_self, if_true]
      rw [wd_neg (by omega)]
      congr 2
      omega
theorem sgW_nil (b : Bool) : sgW b [] = [] := by cases b <;> rfl
theorem apW_wd (z : Int) : apW (wd z) = (decide (z < 0), dig z.natAbs) := by unfold apW; rw [isW_wd, if_pos rfl, valW_wd]
theorem apW_no {l : List UInt8} (h : isW l = false) : apW l = (false, []) := by unfold apW; rw [h]; rfl
theorem apW_yes {l : List UInt8} (h : isW l = true) : apW l = (decide (valW l < 0), dig (valW l).natAbs) := by unfold apW; rw [h, if_pos rfl]
theorem sv_val (z : Int) : sv (decide (z < 0)) z.natAbs = z := by
  unfold sv
  by_cases h : z < 0
  · rw [decide_eq_true h, if_pos rfl]; omega
  · rw [decide_eq_false h]; simp; omega
theorem sv_neg (z : Int) : sv (!decide (z < 0)) z.natAbs = -z := by
  unfold sv
  by_cases h : z < 0
  · rw [decide_eq_true h]; simp; omega
  · rw [decide_eq_false h]; simp; omega

def negW (l : List UInt8) : List UInt8 := if isW l then wd (-valW l) else []
def absW (l : List UInt8) : List UInt8 := if isW l then dig (valW l).natAbs else []
def sgnW (l : List UInt8) : Int := if isW l then (if valW l < 0 then -1 else if valW l = 0 then 0 else 1) else 0
def cmpZ (a b : Int) : Int := if a < b then -1 else if a = b then 0 else 1
def cmpW (l r : List UInt8) : Int := if isW l && isW r then cmpZ (valW l) (valW r) else 0
def addW (l r : List UInt8) : List UInt8 := if isW l && isW r then wd (valW l + valW r) else []
def subW (l r : List UInt8) : List UInt8 := if isW l && isW r then wd (valW l - valW r) else []
def mulW (l r : List UInt8) : List UInt8 := if isW l && isW r then wd (valW l * valW r) else []
/-- Quotient and rest, the rest from 0 on: as Int.ediv and emod. -/
def divW (l r : List UInt8) : List UInt8 × List UInt8 × Bool := if (isW l && isW r) && !(valW r == 0) then (wd (valW l / valW r), wd (valW l % valW r), true) else ([], [], false)
end Go.Proofs.YtmllklfjngapiaaDoor

/- whole.apart, whole.signed, whole.sum. -/
namespace Go.Proofs.YtmllklfjngapiaaDoor
open Go.RowKit

theorem isW_minus (r : List UInt8) : isW (45 :: r) = (isNat r && !(r == [48])) := by rw [isW_cons, if_pos rfl]
theorem isW_plain {l : List UInt8} (h : l.head? ≠ some 45) : isW l = isNat l := by
  cases l with
  | nil => rfl
  | cons c r => rw [isW_cons, if_neg (by simpa using h)]
theorem hp_yes (r : List UInt8) : Lib.hasPrefix (45 :: r) [45] = true := by unfold Lib.hasPrefix; simp
theorem tp_yes (r : List UInt8) : Lib.trimPrefix (45 :: r) [45] = r := by unfold Lib.trimPrefix; rw [hp_yes]; rfl
theorem hp_no {l : List UInt8} (h : l.head? ≠ some 45) : Lib.hasPrefix l [45] = false := by
  unfold Lib.hasPrefix
  cases l with
  | nil => rfl
  | cons c r =>
    have hc : c ≠ 45 := by simpa using h
    simp [List.isPrefixOf, Ne.symm hc]
theorem tp_no {l : List UInt8} (h : l.head? ≠ some 45) : Lib.trimPrefix l [45] = l := by unfold Lib.trimPrefix; rw [hp_no h]; rfl
theorem minus_of {l : List UInt8} (h : l.head? = some 45) : ∃ r, l = 45 :: r := by
  cases l with
  | nil => cases h
  | cons c r => exact ⟨r, by rw [show c = 45 from by simpa using h]⟩
theorem ret_bs {a c : Bool} {b d : List UInt8} (h : (a, b) = (c, d)) : Ending.returned (.tuple #[.bool a, .string ⟨b.toArray⟩]) = .returned (.tuple #[.bool c, .string ⟨d.toArray⟩]) := by
  cases h; rfl

set_option maxRecDepth 100000 in
set_option maxHeartbeats 1000000 in
theorem apart_any (s : ByteArray) (w : World) (hs : s.size ≤ 4611686018427387904) :
    Calls Tryd.prog 55 #[.string s] w fun e w' => e = .returned (.tuple #[.bool (apW s.data.toList).1, .string ⟨(apW s.data.toList).2.toArray⟩]) ∧ w = w' := by
  have c0 := fun w => Tryd.strings_CutPrefix s ⟨#[45]⟩ w
  have e45 : (⟨#[45]⟩ : ByteArray).data.toList = [45] := rfl
  rw [e45] at c0
  have hl : s.data.toList.length = s.size := size_toList s
  by_cases hm : s.data.toList.head? = some 45
  · obtain ⟨r, hr⟩ := minus_of hm
    rw [hr, hp_yes, tp_yes] at c0
    rw [hr] at hl ⊢
    have hrl : (⟨r.toArray⟩ : ByteArray).size ≤ 4611686018427387904 := by show r.toArray.size ≤ _; rw [List.size_toArray]; rw [List.length_cons] at hl; omega
    have c1 := fun w => may_any ⟨r.toArray⟩ w hrl
    have er : (⟨r.toArray⟩ : ByteArray).data.toList = r := rfl
    rw [er] at c1
    cases h1 : isNat r with
    | false =>
      have ha : apW (45 :: r) = (false, []) := apW_no (by rw [isW_minus, h1]; rfl)
      rw [ha]
      rw [h1] at c1
      have C0 := Lib.hid c0; have C1 := Lib.hid c1
      clear c0 c1 ha h1 hr hm hl hrl
      go_enter Tryd.func55, Tryd.ntmps55
      go_wp2_with fail
      refine (C0.out _).mono ?_
      rintro e w' ⟨rfl, rfl⟩
      go_wp2_with fail
      refine (C1.out _).mono ?_
      rintro e w' ⟨rfl, rfl⟩
      go_wp2_with fail
      go_ret2
      exact ⟨rfl, rfl⟩
    | true =>
      rw [h1] at c1
      by_cases h2 : r = [48]
      · have ha : apW (45 :: r) = (false, []) := apW_no (by rw [h2]; rfl)
        rw [ha]
        have e1 : (r == [48]) = true := by rw [h2]; rfl
        have C0 := Lib.hid c0; have C1 := Lib.hid c1
        clear c0 c1 ha h1 hr hm hl hrl h2
        go_enter Tryd.func55, Tryd.ntmps55
        go_wp2_with fail
        refine (C0.out _).mono ?_
        rintro e w' ⟨rfl, rfl⟩
        go_wp2_with fail
        refine (C1.out _).mono ?_
        rintro e w' ⟨rfl, rfl⟩
        go_wp2_with fail
        go_ret2
        exact ⟨rfl, rfl⟩
      · have hw : isW (45 :: r) = true := by rw [isW_minus, h1, beq_false_of_ne h2]; rfl
        have h0 : valS r ≠ 0 := fun e => h2 (nat_zero h1 e)
        have ha : apW (45 :: r) = (true, r) := by
          rw [apW_yes hw, valW_cons, if_pos rfl, decide_eq_true (by omega), show (-(valS r : Int)).natAbs = valS r from by omega, dig_valS h1]
        rw [ha]
        have e1 : (r == [48]) = false := beq_false_of_ne h2
        have C0 := Lib.hid c0; have C1 := Lib.hid c1
        clear c0 c1 ha h1 hr hm hl hrl hw h0
        go_enter Tryd.func55, Tryd.ntmps55
        go_wp2_with fail
        refine (C0.out _).mono ?_
        rintro e w' ⟨rfl, rfl⟩
        go_wp2_with fail
        refine (C1.out _).mono ?_
        rintro e w' ⟨rfl, rfl⟩
        go_wp2_with fail
        go_ret2
        exact ⟨rfl, rfl⟩
  · rw [hp_no hm, tp_no hm] at c0
    have c1 := fun w => may_any ⟨s.data.toList.toArray⟩ w (by show s.data.toList.toArray.size ≤ _; rw [List.size_toArray, hl]; exact hs)
    have er : (⟨s.data.toList.toArray⟩ : ByteArray).data.toList = s.data.toList := rfl
    rw [er] at c1
    cases h1 : isNat s.data.toList with
    | false =>
      have ha : apW s.data.toList = (false, []) := apW_no (by rw [isW_plain hm, h1])
      rw [ha]
      rw [h1] at c1
      generalize s.data.toList = l at *
      have C0 := Lib.hid c0; have C1 := Lib.hid c1
      clear c0 c1 ha h1 hm hl
      go_enter Tryd.func55, Tryd.ntmps55
      go_wp2_with fail
      refine (C0.out _).mono ?_
      rintro e w' ⟨rfl, rfl⟩
      go_wp2_with fail
      refine (C1.out _).mono ?_
      rintro e w' ⟨rfl, rfl⟩
      go_wp2_with fail
      go_ret2
      exact ⟨rfl, rfl⟩
    | true =>
      have hw : isW s.data.toList = true := by rw [isW_plain hm, h1]
      have ha : apW s.data.toList = (false, s.data.toList) := by
        rcases isW_cases hw with ⟨_, h2⟩ | ⟨r, hr, _⟩
        · rw [apW_yes hw, h2, decide_eq_false (by omega), show (valS s.data.toList : Int).natAbs = valS s.data.toList from rfl, dig_valS h1]
        · rw [hr] at hm; exact absurd rfl hm
      rw [ha]
      rw [h1] at c1
      generalize s.data.toList = l at *
      have C0 := Lib.hid c0; have C1 := Lib.hid c1
      clear c0 c1 ha h1 hm hl hw
      go_enter Tryd.func55, Tryd.ntmps55
      go_wp2_with fail
      refine (C0.out _).mono ?_
      rintro e w' ⟨rfl, rfl⟩
      go_wp2_with fail
      refine (C1.out _).mono ?_
      rintro e w' ⟨rfl, rfl⟩
      go_wp2_with fail
      go_ret2
      exact ⟨rfl, rfl⟩

theorem minus_add (l : List UInt8) : (⟨#[45]⟩ : ByteArray) ++ ⟨l.toArray⟩ = ⟨(45 :: l).toArray⟩ := bytes_eq (by rw [ba_append]; rfl)

end Go.Proofs.YtmllklfjngapiaaDoor

/- whole.sum; whole's calls on texts. -/
namespace Go.Proofs.YtmllklfjngapiaaDoor
open Go.RowKit

theorem cmpN_ge' {m n : Nat} (h : ¬ m < n) : ¬ cmpN m n < 0 := by have := cmpN_ge (Nat.le_of_not_lt h); omega
theorem cmpN_lt' {m n : Nat} (h : m < n) : cmpN m n < 0 := by rw [cmpN_lt h]; decide
/-- Both numbers, or not. -/
theorem apW_len (l : List UInt8) (k : Nat) (h : l.length ≤ k) : (apW l).2.length ≤ k := by
  cases hw : isW l with
  | false => rw [apW_no hw]; exact Nat.zero_le _
  | true => rw [apW_yes hw]; exact Nat.le_trans (wd_len hw) h
theorem Lt.of_len {n k : Nat} (h : (dig n).length ≤ k) (h0 : 0 < k) (hk : k ≤ 900000) : Lt n k := by
  refine ⟨?_, h0, hk⟩
  have h1 := valS_lt (dig_all n)
  rw [valS_dig] at h1
  exact Nat.lt_of_lt_of_le h1 (Nat.pow_le_pow_right (by decide) h)
theorem apW_nat (l : List UInt8) : isNat (apW l).2 = isW l := by
  cases hw : isW l with
  | false => rw [apW_no hw]; rfl
  | true => rw [apW_yes hw]; exact isNat_dig _
end Go.Proofs.YtmllklfjngapiaaDoor

/- whole's calls on texts: Abs, Neg, May, Of, Sign, Cmp, Div. -/
namespace Go.Proofs.YtmllklfjngapiaaDoor
open Go.RowKit

theorem absW_ap (l : List UInt8) : absW l = (apW l).2 := by
  unfold absW
  cases h : isW l with
  | false => rw [apW_no h]; rfl
  | true => rw [apW_yes h]; rfl
theorem negW_ap (l : List UInt8) : negW l = sgW (!(apW l).1) (apW l).2 := by
  unfold negW
  cases h : isW l with
  | false => rw [apW_no h, sgW_nil]; rfl
  | true =>
    rw [apW_yes h, sgW_dig, sv_neg]; rfl
set_option maxRecDepth 100000 in
set_option maxHeartbeats 2000000 in
theorem wabs_any (s : ByteArray) (w : World) (hs : s.size ≤ 400000) :
    Calls Tryd.prog 43 #[.string s] w fun e w' => e = .returned (.string ⟨(absW s.data.toList).toArray⟩) ∧ w = w' := by
  have c1 := fun w => apart_any s w (by omega)
  rw [absW_ap]
  generalize apW s.data.toList = p at *
  obtain ⟨f, x1⟩ := p
  have C1 := Lib.hid c1
  clear c1 hs
  go_enter Tryd.func43, Tryd.ntmps43
  go_wp2_with fail
  refine (C1.out _).mono ?_
  rintro e w' ⟨rfl, rfl⟩
  go_wp2_with fail
  go_ret
  exact ⟨rfl, rfl⟩
theorem itoa_wd (n : Int) : Lib.itoa n = wd n := by
  unfold Lib.itoa wd
  split
  · rw [decDigits_dig]
  · rw [decDigits_dig]; congr 1; omega
theorem sgnW_no {l : List UInt8} (h : isW l = false) : sgnW l = 0 := by unfold sgnW; rw [h]; rfl
theorem cmpZ_nn {a b : Int} (ha : a < 0) (hb : b < 0) : cmpN b.natAbs a.natAbs = cmpZ a b := by
  unfold cmpN cmpZ
  by_cases h : a < b
  · rw [if_pos (by omega), if_pos h]
  · rw [if_neg (by omega), if_neg h]
    by_cases e : a = b
    · rw [if_pos (by omega), if_pos e]
    · rw [if_neg (by omega), if_neg e]
theorem cmpZ_pp {a b : Int} (ha : 0 ≤ a) (hb : 0 ≤ b) : cmpN a.natAbs b.natAbs = cmpZ a b := by
  unfold cmpN cmpZ
  by_cases h : a < b
  · rw [if_pos (by omega), if_pos h]
  · rw [if_neg (by omega), if_neg h]
    by_cases e : a = b
    · rw [if_pos (by omega), if_pos e]
    · rw [if_neg (by omega), if_neg e]
end Go.Proofs.YtmllklfjngapiaaDoor

/- whole.Div. -/
namespace Go.Proofs.YtmllklfjngapiaaDoor
open Go.RowKit

/-- Quotient and rest are what they must be. -/
theorem ediv_uni {a b q r : Int} (h : r + b * q = a) (h0 : 0 ≤ r) (h1 : r < (b.natAbs : Int)) : a / b = q ∧ a % b = r := by
  have hb : b ≠ 0 := by omega
  have e1 : r / b = 0 ∧ r % b = r := by
    rcases Int.lt_or_le b 0 with hn | hp
    · have h2 : b = -(-b) := by omega
      rw [h2, Int.ediv_neg, Int.emod_neg, Int.ediv_eq_zero_of_lt h0 (by omega), Int.emod_eq_of_lt h0 (by omega)]
      exact ⟨rfl, rfl⟩
    · exact ⟨Int.ediv_eq_zero_of_lt h0 (by omega), Int.emod_eq_of_lt h0 (by omega)⟩
  rw [← h, Int.add_mul_ediv_left _ _ hb, Int.add_mul_emod_self_left, e1.1, e1.2]
  exact ⟨by omega, rfl⟩
theorem abs_div (a b : Int) : (a.natAbs : Int) = (b.natAbs : Int) * ((a.natAbs / b.natAbs : Nat) : Int) + ((a.natAbs % b.natAbs : Nat) : Int) := by
  have h := Nat.div_add_mod a.natAbs b.natAbs
  rw [← Int.natCast_mul, ← Int.natCast_add, h]
/-- Towards 0 nothing is left over that is below 0, or nothing at all. -/
theorem div_plain {a b : Int} (hb : b ≠ 0) (h : 0 ≤ a ∨ a.natAbs % b.natAbs = 0) :
    a / b = sv (decide (a < 0) != decide (b < 0)) (a.natAbs / b.natAbs) ∧ a % b = ((a.natAbs % b.natAbs : Nat) : Int) := by
  have hA := abs_div a b
  have hlt := Nat.mod_lt a.natAbs (show 0 < b.natAbs by omega)
  refine ediv_uni ?_ (Int.natCast_nonneg _) (by omega)
  generalize a.natAbs / b.natAbs = q at *
  generalize a.natAbs % b.natAbs = r at *
  unfold sv
  by_cases h1 : a < 0 <;> by_cases h2 : b < 0
  · have e1 : a = -(a.natAbs : Int) := by omega
    have e2 : b = -(b.natAbs : Int) := by omega
    have hr : r = 0 := by omega
    rw [decide_eq_true h1, decide_eq_true h2, bne_self_eq_false, if_neg (by decide)]
    generalize (a.natAbs : Int) = A at *
    generalize (b.natAbs : Int) = B at *
    subst hr
    grind
  · have e1 : a = -(a.natAbs : Int) := by omega
    have e2 : b = (b.natAbs : Int) := by omega
    have hr : r = 0 := by omega
    rw [decide_eq_true h1, decide_eq_false h2, if_pos (by decide)]
    generalize (a.natAbs : Int) = A at *
    generalize (b.natAbs : Int) = B at *
    subst hr
    grind
  · have e1 : a = (a.natAbs : Int) := by omega
    have e2 : b = -(b.natAbs : Int) := by omega
    rw [decide_eq_false h1, decide_eq_true h2, if_pos (by decide)]
    generalize (a.natAbs : Int) = A at *
    generalize (b.natAbs : Int) = B at *
    grind
  · have e1 : a = (a.natAbs : Int) := by omega
    have e2 : b = (b.natAbs : Int) := by omega
    rw [decide_eq_false h1, decide_eq_false h2, if_neg (by decide)]
    generalize (a.natAbs : Int) = A at *
    generalize (b.natAbs : Int) = B at *
    grind
/-- Of a below 0 something is left: once more taken away. -/
theorem div_more {a b : Int} (hb : b ≠ 0) (h1 : a < 0) (h : a.natAbs % b.natAbs ≠ 0) :
    a / b = sv (true != decide (b < 0)) (a.natAbs / b.natAbs + 1) ∧ a % b = ((b.natAbs - a.natAbs % b.natAbs : Nat) : Int) := by
  have hA := abs_div a b
  have hlt := Nat.mod_lt a.natAbs (show 0 < b.natAbs by omega)
  refine ediv_uni ?_ (Int.natCast_nonneg _) (by omega)
  have hc : ((b.natAbs - a.natAbs % b.natAbs : Nat) : Int) = (b.natAbs : Int) - ((a.natAbs % b.natAbs : Nat) : Int) := by omega
  rw [hc]
  generalize a.natAbs / b.natAbs = q at *
  generalize a.natAbs % b.natAbs = r at *
  unfold sv
  have e1 : a = -(a.natAbs : Int) := by omega
  by_cases h2 : b < 0
  · have e2 : b = -(b.natAbs : Int) := by omega
    rw [decide_eq_true h2, bne_self_eq_false, if_neg (by decide)]
    have hq : ((q + 1 : Nat) : Int) = (q : Int) + 1 := by omega
    rw [hq]
    clear hc hlt
    generalize (a.natAbs : Int) = A at *
    generalize (b.natAbs : Int) = B at *
    grind
  · have e2 : b = (b.natAbs : Int) := by omega
    rw [decide_eq_false h2, if_pos (by decide)]
    have hq : ((q + 1 : Nat) : Int) = (q : Int) + 1 := by omega
    rw [hq]
    clear hc hlt
    generalize (a.natAbs : Int) = A at *
    generalize (b.natAbs : Int) = B at *
    grind
theorem divW_no {l r : List UInt8} (h : ((isW l && isW r) && !(valW r == 0)) = false) : divW l r = ([], [], false) := by unfold divW; rw [h]; rfl
end Go.Proofs.YtmllklfjngapiaaDoor
