/- The document's own answer for naturals: Cmp, Of, Small. -/
import Derived.Test.YtcekdidefomkfaaDoorRefA
namespace Go.Proofs.YtcekdidefomkfaaDoor
open Go.RowKit

/-- Of digits of one length, the order of texts is that of their numbers. -/
theorem less_same {l r : List UInt8} (hl : l.all isDig = true) (hr : r.all isDig = true) (h : l.length = r.length) : Op.bytesLess l r = decide (valS l < valS r) := by
  induction l generalizing r with
  | nil =>
    obtain rfl : r = [] := List.length_eq_zero_iff.1 (by simpa using h.symm)
    rfl
  | cons a l ih =>
    cases r with
    | nil => simp at h
    | cons b r =>
      rw [List.all_cons, Bool.and_eq_true] at hl hr
      have hlen : l.length = r.length := by simpa using h
      have hi := ih hl.2 hr.2 hlen
      have v1 := valS_lt hl.2
      have v2 := valS_lt hr.2
      have d1 := hl.1
      have d2 := hr.1
      unfold isDig at d1 d2
      simp only [Bool.and_eq_true, decide_eq_true_eq] at d1 d2
      rw [valS_cons, valS_cons, hlen]
      rw [hlen] at v1
      unfold Op.bytesLess
      rw [hi]
      generalize 10 ^ r.length = P at *
      have key : ∀ x y m n : Nat, x < y → m < P → x * P + m < y * P + n := fun x y m n hxy hm => by
        have : (x + 1) * P ≤ y * P := Nat.mul_le_mul_right _ hxy
        rw [Nat.add_mul, Nat.one_mul] at this
        omega
      rcases Nat.lt_trichotomy a.toNat b.toNat with h1 | h1 | h1
      · have k := key (a.toNat - 48) (b.toNat - 48) (valS l) (valS r) (by omega) v1
        have e1 : decide (a < b) = true := decide_eq_true (show a.toNat < b.toNat from h1)
        rw [e1, decide_eq_true k]; rfl
      · have e : a = b := UInt8.toNat_inj.1 h1
        subst e
        have e1 : decide (a < a) = false := decide_eq_false (fun h : a.toNat < a.toNat => Nat.lt_irrefl _ h)
        rw [e1]
        simp
      · have k := key (b.toNat - 48) (a.toNat - 48) (valS r) (valS l) (by omega) v2
        have e1 : decide (a < b) = false := decide_eq_false (fun h : a.toNat < b.toNat => by omega)
        have e2 : (a == b) = false := beq_false_of_ne (fun e => by subst e; omega)
        rw [e1, e2, decide_eq_false (p := (a.toNat - 48) * P + valS l < (b.toNat - 48) * P + valS r) (by omega)]; rfl
theorem nat_same {l r : List UInt8} (hl : isNat l = true) (hr : isNat r = true) (h : valS l = valS r) : l = r := by
  rw [← dig_valS hl, ← dig_valS hr, h]
theorem bytes_eq {s t : ByteArray} (h : s.data.toList = t.data.toList) : s = t := by
  cases s; cases t
  simp only at h
  rw [Array.toList_inj.1 h]

set_option maxRecDepth 100000 in
set_option maxHeartbeats 1000000 in
theorem rcmp_any (s t : ByteArray) (w : World) (hs : s.size ≤ 1000000000) (ht : t.size ≤ 1000000000) :
    Calls Tryd.prog 29 #[.string s, .string t] w fun e w' => e = .returned (.int .i64 (cmpS s.data.toList t.data.toList)) ∧ w = w' := by
  have c1 := fun w => rmay_any s w (by omega)
  have c2 := fun w => rmay_any t w (by omega)
  cases h1 : isNat s.data.toList with
  | false =>
    have hr : cmpS s.data.toList t.data.toList = 0 := by unfold cmpS; rw [h1]; rfl
    rw [hr]
    simp only [h1] at c1
    clear hr h1 c2
    go_enter Tryd.func29, Tryd.ntmps29
    go_wp2_with fail
    refine (c1 _).mono ?_
    rintro e w' ⟨rfl, rfl⟩
    go_wp2_with fail
    go_ret
    exact ⟨rfl, rfl⟩
  | true => cases h2 : isNat t.data.toList with
    | false =>
      have hr : cmpS s.data.toList t.data.toList = 0 := by unfold cmpS; rw [h1, h2]; rfl
      rw [hr]
      simp only [h1] at c1
      simp only [h2] at c2
      clear hr h1 h2
      go_enter Tryd.func29, Tryd.ntmps29
      go_wp2_with fail
      refine (c1 _).mono ?_
      rintro e w' ⟨rfl, rfl⟩
      go_wp2_with fail
      refine (c2 _).mono ?_
      rintro e w' ⟨rfl, rfl⟩
      go_wp2_with fail
      go_ret
      exact ⟨rfl, rfl⟩
    | true =>
      rw [cmpS_nat h1 h2]
      by_cases he : s = t
      · have hz : cmpN (valS s.data.toList) (valS t.data.toList) = 0 := by rw [he]; unfold cmpN; simp
        have eb : (s.toList == t.toList) = true := by rw [he]; exact beq_self_eq_true _
        have ep : s.toList = t.toList := by rw [he]
        simp only [h1] at c1
        simp only [h2] at c2
        rw [hz]
        clear hz h1 h2 he
        go_enter Tryd.func29, Tryd.ntmps29
        go_wp2_with fail
        refine (c1 _).mono ?_
        rintro e w' ⟨rfl, rfl⟩
        go_wp2_with fail
        refine (c2 _).mono ?_
        rintro e w' ⟨rfl, rfl⟩
        go_wp2_with fail
        go_ret
        exact ⟨rfl, rfl⟩
      · have hne : valS s.data.toList ≠ valS t.data.toList := fun h => he (bytes_eq (nat_same h1 h2 h))
        have hne2 : ¬ s.toList = t.toList := fun h => he (bytes_eq (by rw [ByteArray.toList_eq, ByteArray.toList_eq] at h; exact h))
        have eb : (s.toList == t.toList) = false := beq_false_of_ne hne2
        have ln : ∀ m n : Nat, m < n → cmpN m n = -1 := fun m n h => by unfold cmpN; rw [if_pos h]
        have gn : ∀ m n : Nat, n < m → cmpN m n = 1 := fun m n h => by unfold cmpN; rw [if_neg (by omega), if_neg (by omega)]
        rcases (by omega : s.size < t.size ∨ (¬ (s.size : Int) < t.size ∧ t.size < s.size) ∨ s.size = t.size) with h | h | h
        · have hz := ln _ _ (shorter_lt h1 h2 h)
          simp only [h1] at c1
          simp only [h2] at c2
          rw [hz]
          clear hz h1 h2 he hne ln gn
          go_enter Tryd.func29, Tryd.ntmps29
          go_wp2_with fail
          refine (c1 _).mono ?_
          rintro e w' ⟨rfl, rfl⟩
          go_wp2_with fail
          refine (c2 _).mono ?_
          rintro e w' ⟨rfl, rfl⟩
          go_wp2_with fail
          go_ret
          exact ⟨rfl, rfl⟩
        · obtain ⟨h, h'⟩ := h
          have hz := gn _ _ (shorter_lt h2 h1 h')
          have hq : ((s.size : Int) == (t.size : Int)) = false := beq_false_of_ne (by omega)
          simp only [h1] at c1
          simp only [h2] at c2
          rw [hz]
          clear hz h1 h2 he hne ln gn
          go_enter Tryd.func29, Tryd.ntmps29
          go_wp2_with fail
          refine (c1 _).mono ?_
          rintro e w' ⟨rfl, rfl⟩
          go_wp2_with fail
          refine (c2 _).mono ?_
          rintro e w' ⟨rfl, rfl⟩
          go_wp2_with fail
          go_ret
          exact ⟨rfl, rfl⟩
        · have hb : Op.bytesLess s.toList t.toList = decide (valS s.data.toList < valS t.data.toList) := by
            rw [ByteArray.toList_eq, ByteArray.toList_eq]
            exact less_same (isNat_all h1) (isNat_all h2) h
          have hlt : ¬ (s.size : Int) < t.size := by omega
          have hq : ((s.size : Int) == (t.size : Int)) = true := by rw [h]; exact beq_self_eq_true _
          have hq2 : (t.size : Int) = s.size := by omega
          simp only [h1] at c1
          simp only [h2] at c2
          rcases Nat.lt_or_gt_of_ne hne with hl | hl
          all_goals
            first | rw [decide_eq_true hl] at hb; rw [ln _ _ hl] | rw [decide_eq_false (by omega)] at hb; rw [gn _ _ hl]
            clear h1 h2 he hne ln gn hl h
            go_enter Tryd.func29, Tryd.ntmps29
            go_wp2_with fail
            refine (c1 _).mono ?_
            rintro e w' ⟨rfl, rfl⟩
            go_wp2_with fail
            refine (c2 _).mono ?_
            rintro e w' ⟨rfl, rfl⟩
            go_wp2_with fail
            go_ret
            exact ⟨rfl, rfl⟩
end Go.Proofs.YtcekdidefomkfaaDoor
