/- The document's own answer for whole numbers: amount, with, May, Of, Sign, Abs, Neg. -/
import Derived.Test.YtmllklfjngapiaaDoorAllWhole
namespace Go.Proofs.YtmllklfjngapiaaDoor
open Go.RowKit

section
variable {a b j k : Nat}
theorem rnAdd {x : Nat} (ha : Lt a j) (hb : Lt b k) (h : a + b = x) (w : World) :
    Calls Tryd.prog 39 #[.string ⟨(dig a).toArray⟩, .string ⟨(dig b).toArray⟩] w (GiveS w (dig x)) := by
  have c := radd_any ⟨(dig a).toArray⟩ ⟨(dig b).toArray⟩ w (Nat.le_trans ha.size (by decide)) (Nat.le_trans hb.size (by decide))
  have e : addS (⟨(dig a).toArray⟩ : ByteArray).data.toList (⟨(dig b).toArray⟩ : ByteArray).data.toList = dig x := by
    show addS (dig a) (dig b) = _
    unfold addS; rw [isNat_dig, isNat_dig, valS_dig, valS_dig, h]; rfl
  rw [e] at c; exact c
theorem rnSub {x : Nat} (ha : Lt a j) (hb : Lt b k) (hle : b ≤ a) (h : a - b = x) (w : World) :
    Calls Tryd.prog 58 #[.string ⟨(dig a).toArray⟩, .string ⟨(dig b).toArray⟩] w (GiveSB w (dig x, true)) := by
  have c := rsub_any ⟨(dig a).toArray⟩ ⟨(dig b).toArray⟩ w (Nat.le_trans ha.size (by decide)) (Nat.le_trans hb.size (by decide))
  have e : subS (⟨(dig a).toArray⟩ : ByteArray).data.toList (⟨(dig b).toArray⟩ : ByteArray).data.toList = (dig x, true) := by
    show subS (dig a) (dig b) = _
    unfold subS; rw [isNat_dig, isNat_dig, valS_dig, valS_dig, decide_eq_true hle, h]; rfl
  rw [e] at c; exact c
theorem rnDiv {q r : Nat} (ha : Lt a j) (hb : Lt b k) (h0 : 0 < b) (hq : a / b = q) (hr : a % b = r) (w : World) :
    Calls Tryd.prog 47 #[.string ⟨(dig a).toArray⟩, .string ⟨(dig b).toArray⟩] w (GiveSSB w (dig q, dig r, true)) := by
  have c := rdiv_any ⟨(dig a).toArray⟩ ⟨(dig b).toArray⟩ w (Nat.le_trans ha.size (by decide)) (Nat.le_trans hb.size (by decide))
  have e : divS (⟨(dig a).toArray⟩ : ByteArray).data.toList (⟨(dig b).toArray⟩ : ByteArray).data.toList = (dig q, dig r, true) := by
    show divS (dig a) (dig b) = _
    unfold divS; rw [isNat_dig, isNat_dig, valS_dig, valS_dig, decide_eq_true h0, hq, hr]; rfl
  rw [e] at c; exact c
theorem rnCmp {c : Int} (ha : Lt a j) (hb : Lt b k) (h : cmpN a b = c) (w : World) :
    Calls Tryd.prog 57 #[.string ⟨(dig a).toArray⟩, .string ⟨(dig b).toArray⟩] w fun e w' => e = .returned (.int .i64 c) ∧ w = w' := by
  have c := rcmp_any ⟨(dig a).toArray⟩ ⟨(dig b).toArray⟩ w (Nat.le_trans ha.size (by decide)) (Nat.le_trans hb.size (by decide))
  have e : cmpS (⟨(dig a).toArray⟩ : ByteArray).data.toList (⟨(dig b).toArray⟩ : ByteArray).data.toList = cmpN a b := by
    show cmpS (dig a) (dig b) = _
    rw [cmpS_nat (isNat_dig a) (isNat_dig b), valS_dig, valS_dig]
  rw [e, h] at c; exact c
end

/-- A text without its sign, and whether it has one. -/
def amR (l : List UInt8) : List UInt8 × Bool := if l.head? = some 45 then (l.tail, true) else (l, false)
theorem amR_yes (r : List UInt8) : amR (45 :: r) = (r, true) := rfl
theorem amR_no {l : List UInt8} (h : l.head? ≠ some 45) : amR l = (l, false) := by unfold amR; rw [if_neg h]
theorem amR_wd (z : Int) : amR (wd z) = (dig z.natAbs, decide (z < 0)) := by
  by_cases h : z < 0
  · rw [wd_neg h, amR_yes, decide_eq_true h]
  · rw [wd_pos (by omega), decide_eq_false h, amR_no]
    obtain ⟨c, r, e, hc⟩ := dig_cons z.natAbs
    rw [e]; simpa using hc
theorem amR_len (l : List UInt8) : (amR l).1.length ≤ l.length := by
  unfold amR
  split
  · rw [List.length_tail]; omega
  · exact Nat.le_refl _
theorem same_text (s : ByteArray) : s = ⟨s.data.toList.toArray⟩ := bytes_eq rfl
theorem ret_sb {s : ByteArray} {l : List UInt8} {b : Bool} (h : s.data.toList = l) : Ending.returned (.tuple #[.string s, .bool b]) = .returned (.tuple #[.string ⟨l.toArray⟩, .bool b]) := by
  rw [← h, ← same_text]
theorem head_idx {s : ByteArray} (h : 0 < s.size) : s.data.toList.head? = some s[0] := by rw [List.head?_eq_getElem?, byte_at s 0 h]
set_option maxRecDepth 100000 in
set_option maxHeartbeats 2000000 in
theorem ramount_any (s : ByteArray) (w : World) (hs : s.size ≤ 4611686018427387904) :
    Calls Tryd.prog 46 #[.string s] w fun e w' => e = .returned (.tuple #[.string ⟨(amR s.data.toList).1.toArray⟩, .bool (amR s.data.toList).2]) ∧ w = w' := by
  by_cases hm : s.data.toList.head? = some 45
  · obtain ⟨r, hr⟩ := minus_of hm
    have h0 : 0 < s.size := by rw [← size_toList, hr, List.length_cons]; omega
    have h1 : (s[0].toNat : Int) = 45 := by
      rw [head_idx h0] at hm
      have e : s[0] = 45 := by simpa using hm
      rw [e]; rfl
    have ha : amR s.data.toList = (r, true) := by rw [hr]; rfl
    have hx := str_drop (s := s) (k := 1) (l := r) (by rw [hr]; rfl)
    rw [ha]
    have HX := Lib.hid hx
    clear hm hr ha hx
    go_enter Tryd.func46, Tryd.ntmps46
    go_wp2
    go_ret2
    exact ⟨by rw [HX.out]; rfl, rfl⟩
  · rw [amR_no hm]
    have ht : s.data.toList = s.data.toList := rfl
    have HT := Lib.hid ht
    clear ht
    by_cases h0 : 0 < s.size
    · have h1 : ¬ (s[0].toNat : Int) = 45 := by
        intro e
        apply hm
        rw [head_idx h0]
        exact congrArg some (UInt8.toNat_inj.1 (by show s[0].toNat = 45; omega))
      clear hm
      go_enter Tryd.func46, Tryd.ntmps46
      go_wp2
      go_ret2
      exact ⟨ret_sb rfl, rfl⟩
    · have h1 : ¬ (0 : Int) < (s.size : Int) := by omega
      clear hm
      go_enter Tryd.func46, Tryd.ntmps46
      go_wp2
      go_ret2
      exact ⟨ret_sb rfl, rfl⟩

/-- A sign ahead of an amount that is not 0. -/
def wiR (l : List UInt8) (b : Bool) : List UInt8 := if b && !(l == [48]) then 45 :: l else l
theorem wiR_dig (b : Bool) (n : Nat) : wiR (dig n) b = wd (sv b n) := by
  rw [← sgW_dig]
  unfold wiR sgW
  rw [show (dig n == []) = false from beq_false_of_ne (dig_ne n)]
  rfl
set_option maxRecDepth 100000 in
set_option maxHeartbeats 2000000 in
theorem rwmay_any (s : ByteArray) (w : World) (hs : s.size ≤ 400000) :
    Calls Tryd.prog 35 #[.string s] w fun e w' => e = .returned (.bool (isW s.data.toList)) ∧ w = w' := by
  have c1 := fun w => ramount_any s w (by omega)
  have l1 := amR_len s.data.toList
  rw [size_toList] at l1
  have c2 := fun w => rmay_any ⟨(amR s.data.toList).1.toArray⟩ w (by show (amR s.data.toList).1.toArray.size ≤ _; rw [List.size_toArray]; omega)
  have er : isNat (⟨(amR s.data.toList).1.toArray⟩ : ByteArray).data.toList = isNat (amR s.data.toList).1 := rfl
  rw [er] at c2
  clear er
  by_cases hm : s.data.toList.head? = some 45
  · obtain ⟨r, hr⟩ := minus_of hm
    rw [hr, isW_minus]
    rw [hr, amR_yes] at c1 c2
    cases h1 : isNat r with
    | false =>
      simp only [h1] at c2
      have C1 := Lib.hid c1; have C2 := Lib.hid c2
      clear c1 c2 hs l1 hm hr h1
      go_enter Tryd.func35, Tryd.ntmps35
      go_wp2_with fail
      refine (C1.out _).mono ?_
      rintro e w' ⟨rfl, rfl⟩
      go_wp2_with fail
      refine (C2.out _).mono ?_
      rintro e w' ⟨rfl, rfl⟩
      go_wp2_with fail
      go_ret
      exact ⟨rfl, rfl⟩
    | true =>
      simp only [h1] at c2
      have C1 := Lib.hid c1; have C2 := Lib.hid c2
      clear c1 c2 hs l1 hm hr h1
      go_enter Tryd.func35, Tryd.ntmps35
      go_wp2_with fail
      refine (C1.out _).mono ?_
      rintro e w' ⟨rfl, rfl⟩
      go_wp2_with fail
      refine (C2.out _).mono ?_
      rintro e w' ⟨rfl, rfl⟩
      go_wp2_with fail
      go_ret
      exact ⟨rfl, rfl⟩
  · rw [isW_plain hm]
    rw [amR_no hm] at c1 c2
    generalize s.data.toList = l at *
    cases h1 : isNat l with
    | false =>
      simp only [h1] at c2
      have C1 := Lib.hid c1; have C2 := Lib.hid c2
      clear c1 c2 hs l1 hm h1
      go_enter Tryd.func35, Tryd.ntmps35
      go_wp2_with fail
      refine (C1.out _).mono ?_
      rintro e w' ⟨rfl, rfl⟩
      go_wp2_with fail
      refine (C2.out _).mono ?_
      rintro e w' ⟨rfl, rfl⟩
      go_wp2_with fail
      go_ret
      exact ⟨rfl, rfl⟩
    | true =>
      simp only [h1] at c2
      have C1 := Lib.hid c1; have C2 := Lib.hid c2
      clear c1 c2 hs l1 hm h1
      go_enter Tryd.func35, Tryd.ntmps35
      go_wp2_with fail
      refine (C1.out _).mono ?_
      rintro e w' ⟨rfl, rfl⟩
      go_wp2_with fail
      refine (C2.out _).mono ?_
      rintro e w' ⟨rfl, rfl⟩
      go_wp2_with fail
      go_ret
      exact ⟨rfl, rfl⟩
theorem am_of {s : ByteArray} (h : isW s.data.toList = true) : amR s.data.toList = (dig (valW s.data.toList).natAbs, decide (valW s.data.toList < 0)) := by
  have e := amR_wd (valW s.data.toList)
  rw [wd_valW h] at e
  exact e
set_option maxRecDepth 100000 in
set_option maxHeartbeats 2000000 in
theorem rwabs_any (s : ByteArray) (w : World) (hs : s.size ≤ 400000) :
    Calls Tryd.prog 38 #[.string s] w fun e w' => e = .returned (.string ⟨(absW s.data.toList).toArray⟩) ∧ w = w' := by
  have c1 := fun w => ramount_any s w (by omega)
  have c2 := fun w => rwmay_any s w hs
  cases h : isW s.data.toList with
  | false =>
    have hr : absW s.data.toList = [] := by unfold absW; rw [h]; rfl
    rw [hr]
    rw [h] at c2
    have C2 := Lib.hid c2
    clear c1 c2 hs h hr
    go_enter Tryd.func38, Tryd.ntmps38
    go_wp2_with fail
    refine (C2.out _).mono ?_
    rintro e w' ⟨rfl, rfl⟩
    go_wp2_with fail
    go_ret
    exact ⟨rfl, rfl⟩
  | true =>
    have hr : absW s.data.toList = dig (valW s.data.toList).natAbs := by unfold absW; rw [h]; rfl
    rw [hr]
    rw [h] at c2
    rw [am_of h] at c1
    have l1 : Lt (valW s.data.toList).natAbs 400000 := Lt.of_len (Nat.le_trans (wd_len h) hs) (by decide) (by decide)
    generalize valW s.data.toList = z at *
    have C1 := Lib.hid c1; have C2 := Lib.hid c2
    clear c1 c2 hs h hr l1
    go_enter Tryd.func38, Tryd.ntmps38
    go_wp2_with fail
    refine (C2.out _).mono ?_
    rintro e w' ⟨rfl, rfl⟩
    go_wp2_with fail
    refine (C1.out _).mono ?_
    rintro e w' ⟨rfl, rfl⟩
    go_wp2_with fail
    go_ret
    exact ⟨rfl, rfl⟩
set_option maxRecDepth 100000 in
set_option maxHeartbeats 2000000 in
theorem rwof_any (n : Int) (w : World) (h0 : -9223372036854775808 ≤ n) (h1 : n ≤ 9223372036854775807) :
    Calls Tryd.prog 27 #[.int .i64 n] w (GiveS w (wd n)) := by
  rcases Int.lt_or_le n 0 with h | h
  · obtain ⟨m, hm⟩ : ∃ m : Nat, -(n + 1) = (m : Int) := ⟨(-(n + 1)).toNat, by omega⟩
    have hr : wd n = 45 :: dig (m + 1) := by rw [wd_neg h]; congr 2; omega
    rw [hr]
    have hof : ofS (-(n + 1)) = dig m := by unfold ofS; rw [if_neg (by omega), hm]; rfl
    have c1 := fun w => rof_any (-(n + 1)) w (by omega) (by omega)
    rw [hof] at c1
    have hm20 : m + 1 ≤ 9223372036854775808 := by omega
    have lm : Lt m 20 := ⟨Nat.lt_of_lt_of_le (show m < 9223372036854775808 by omega) (by decide), by decide, by decide⟩
    have lm1 : (dig (m + 1)).length ≤ 20 := dig_length (by decide) (Nat.lt_of_le_of_lt hm20 (by decide))
    have l1' : Lt 1 1 := ⟨by decide, by decide, by decide⟩
    have cA : ∀ w, Calls Tryd.prog 39 #[.string ⟨(dig m).toArray⟩, .string ⟨#[49]⟩] w (GiveS w (dig (m + 1))) := fun w => by
      have c := rnAdd lm l1' (show m + 1 = m + 1 from rfl) w
      rw [dig_1] at c
      exact c
    have hadd := fun w => run_string_add_sum (P := Tryd.prog) w (⟨#[45]⟩ : ByteArray) ⟨(dig (m + 1)).toArray⟩ (by show 1 + (dig (m + 1)).toArray.size ≤ _; rw [List.size_toArray]; omega)
    rw [minus_add] at hadd
    have C1 := Lib.hid c1; have CA := Lib.hid cA
    have hb1 : n + 1 ≤ 0 := by omega
    clear c1 cA lm lm1 l1' hm20 hof hr hm
    go_enter Tryd.func27, Tryd.ntmps27
    go_wp2_with fail
    refine (C1.out _).mono ?_
    rintro e w' ⟨rfl, rfl⟩
    go_wp2_with fail
    refine (CA.out _).mono ?_
    rintro e w1 ⟨rfl, b⟩
    have B1 := b
    clear b
    go_wp2_with fail
    go_ret
    exact ⟨rfl, B1⟩
  · have c1 := fun w => rof_any n w h0 h1
    have hof : ofS n = wd n := by unfold ofS; rw [if_neg (by omega), wd_pos h]; congr 1; omega
    rw [hof] at c1
    have C1 := Lib.hid c1
    have h' : ¬ n < 0 := by omega
    clear c1 hof h
    go_enter Tryd.func27, Tryd.ntmps27
    go_wp2_with fail
    refine (C1.out _).mono ?_
    rintro e w' ⟨rfl, rfl⟩
    go_wp2_with fail
    go_ret
    exact ⟨rfl, Below.refl _ _⟩
end Go.Proofs.YtmllklfjngapiaaDoor

/- The document's own answer for whole numbers: Add, Sub, Cmp, Mul, Div. -/
namespace Go.Proofs.YtmllklfjngapiaaDoor
open Go.RowKit

theorem sv_same (f : Bool) (m n : Nat) : sv f (m + n) = sv f m + sv f n := by cases f <;> simp [sv] <;> omega
theorem sv_left {f g : Bool} (h : f ≠ g) {m n : Nat} (hle : n ≤ m) : sv f (m - n) = sv f m + sv g n := by
  cases f <;> cases g <;> simp [sv] at h ⊢ <;> omega
theorem sv_right {f g : Bool} (h : f ≠ g) {m n : Nat} (hle : m ≤ n) : sv g (n - m) = sv f m + sv g n := by
  cases f <;> cases g <;> simp [sv] at h ⊢ <;> omega
theorem addW_neg (l r : List UInt8) : addW l (negW r) = subW l r := by
  unfold addW subW
  cases hr : isW r with
  | false =>
    have : negW r = [] := by unfold negW; rw [hr]; rfl
    rw [this, show isW [] = false from rfl, Bool.and_false]; rfl
  | true =>
    have : negW r = wd (-valW r) := by unfold negW; rw [hr]; rfl
    rw [this, isW_wd, valW_wd, ← Int.sub_eq_add_neg]
theorem sgn_sub (l r : List UInt8) : sgnW (subW l r) = cmpW l r := by
  unfold subW cmpW
  cases h : isW l && isW r with
  | false => rfl
  | true =>
    simp only [if_true]
    unfold sgnW cmpZ
    rw [isW_wd, valW_wd, if_pos rfl]
    by_cases h1 : valW l < valW r
    · rw [if_pos (by omega), if_pos h1]
    · rw [if_neg (by omega), if_neg h1]
      by_cases h2 : valW l = valW r
      · rw [if_pos (by omega), if_pos h2]
      · rw [if_neg (by omega), if_neg h2]
theorem negW_len (l : List UInt8) : (negW l).length ≤ l.length + 1 := by
  unfold negW
  split
  · rename_i h
    have h1 := wd_len h
    by_cases hz : -valW l < 0
    · rw [wd_neg hz, List.length_cons, Int.natAbs_neg]; omega
    · rw [wd_pos (by omega), Int.natAbs_neg]; omega
  · exact Nat.zero_le _
theorem wd_length (z : Int) : (wd z).length ≤ (dig z.natAbs).length + 1 := by
  unfold wd; split
  · rw [List.length_cons]; exact Nat.le_refl _
  · omega
theorem subW_len (l r : List UInt8) : (subW l r).length ≤ l.length + r.length + 2 := by
  unfold subW
  split
  · rename_i h
    rw [Bool.and_eq_true] at h
    have h1 := wd_len h.1
    have h2 := wd_len h.2
    refine Nat.le_trans (wd_length _) ?_
    have hl : (dig (valW l - valW r).natAbs).length ≤ l.length + r.length + 1 := by
      have k1 := valS_lt (dig_all (valW l).natAbs)
      have k2 := valS_lt (dig_all (valW r).natAbs)
      rw [valS_dig] at k1 k2
      have e1 : 10 ^ (dig (valW l).natAbs).length ≤ 10 ^ l.length := Nat.pow_le_pow_right (by decide) h1
      have e2 : 10 ^ (dig (valW r).natAbs).length ≤ 10 ^ r.length := Nat.pow_le_pow_right (by decide) h2
      have k3 := add_lt (Nat.lt_of_lt_of_le k1 e1) (Nat.lt_of_lt_of_le k2 e2)
      refine dig_length (Nat.succ_pos _) (Nat.lt_of_le_of_lt ?_ k3)
      omega
    omega
  · exact Nat.zero_le _
theorem sv_mul (a b : Int) : sv (decide (a < 0) != decide (b < 0)) (a.natAbs * b.natAbs) = a * b := by
  rw [← Int.natAbs_mul]
  unfold sv
  by_cases h1 : a < 0 <;> by_cases h2 : b < 0 <;> simp only [h1, h2, decide_true, decide_false, bne_self_eq_false, Bool.false_eq_true, if_false, Bool.bne_true, Bool.bne_false, Bool.not_false, if_true]
  · have := Int.mul_nonneg_of_nonpos_of_nonpos (Int.le_of_lt h1) (Int.le_of_lt h2); omega
  · have := Int.mul_nonpos_of_nonpos_of_nonneg (Int.le_of_lt h1) (Int.le_of_not_gt h2); omega
  · have := Int.mul_nonpos_of_nonneg_of_nonpos (Int.le_of_not_gt h1) (Int.le_of_lt h2); omega
  · have := Int.mul_nonneg (Int.le_of_not_gt h1) (Int.le_of_not_gt h2); omega
end Go.Proofs.YtmllklfjngapiaaDoor
