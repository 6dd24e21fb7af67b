/- nat.May. -/
import Derived.Test.YtcekdidefomkfaaDoorRows
import Derived.Test.YtcekdidefomkfaaDoorMem
import Derived.Test.YtcekdidefomkfaaDoorNumS
namespace Go.Proofs.YtcekdidefomkfaaDoor
open Go.RowKit

theorem ret_bool {a b : Bool} (h : a = b) : Ending.returned (.bool a) = .returned (.bool b) := by rw [h]

theorem size_toList (s : ByteArray) : s.data.toList.length = s.size := rfl
theorem byte_at (s : ByteArray) (k : Nat) (h : k < s.size) : s.data.toList[k]? = some s[k] := by
  rw [List.getElem?_eq_getElem (by rw [size_toList]; exact h)]; rfl
theorem toList_empty (s : ByteArray) : s.toList.isEmpty = decide (s.size = 0) := by
  rw [ByteArray.toList_eq, ← size_toList]
  cases s.data.toList with
  | nil => rfl
  | cons c r => simp

/-- What makes a text no natural, and what makes it one. -/
theorem isNat_empty {s : ByteArray} (h : s.size = 0) : isNat s.data.toList = false := by
  have : s.data.toList = [] := List.length_eq_zero_iff.1 h
  rw [this]; rfl
theorem isNat_lead {s : ByteArray} (h0 : 0 < s.size) (h : s[0].toNat = 48) (h1 : 1 < s.size) : isNat s.data.toList = false := by
  unfold isNat
  have hh : s.data.toList.head? = some 48 := by
    rw [List.head?_eq_getElem?, byte_at s 0 h0]
    exact congrArg some (UInt8.toNat_inj.1 h)
  have hl : 1 < s.data.toList.length := h1
  have e2 : decide (1 < s.data.toList.length) = true := decide_eq_true hl
  rw [hh, e2]
  simp
theorem isNat_bad {s : ByteArray} {k : Nat} (hk : k < s.size) (h : s[k].toNat < 48 ∨ 57 < s[k].toNat) : isNat s.data.toList = false := by
  unfold isNat
  have : s.data.toList.all isDig = false := by
    rw [List.all_eq_false]
    refine ⟨s[k], List.mem_of_getElem? (byte_at s k hk), ?_⟩
    unfold isDig
    simp only [Bool.and_eq_true, decide_eq_true_eq]
    omega
  rw [this, Bool.and_false]
theorem isNat_good {s : ByteArray} (h0 : 0 < s.size) (h1 : ¬ (s[0].toNat = 48 ∧ 1 < s.size)) (h : ∀ k (hk : k < s.size), 48 ≤ s[k].toNat ∧ s[k].toNat ≤ 57) : isNat s.data.toList = true := by
  unfold isNat
  have ha : s.data.toList.all isDig = true := by
    rw [List.all_eq_true]
    intro c hc
    obtain ⟨k, hk, rfl⟩ := List.mem_iff_getElem.1 hc
    have := h k hk
    unfold isDig
    simp only [Bool.and_eq_true, decide_eq_true_eq]
    exact this
  have he : s.data.toList ≠ [] := by intro e; have := size_toList s; rw [e] at this; simp at this; omega
  rw [ha, Bool.and_true, Bool.and_eq_true]
  refine ⟨by simpa using he, ?_⟩
  rw [Bool.not_eq_true', Bool.and_eq_false_iff]
  by_cases hz : s[0].toNat = 48
  · refine .inr ?_
    rw [decide_eq_false_iff_not, size_toList]
    intro h2; exact h1 ⟨hz, h2⟩
  · refine .inl ?_
    rw [List.head?_eq_getElem?, byte_at s 0 h0]
    simp only [beq_eq_false_iff_ne, ne_eq, Option.some.injEq]
    intro e; rw [e] at hz; exact hz rfl

set_option maxHeartbeats 400000 in
theorem may_any (s : ByteArray) (w : World) (hs : s.size ≤ 4611686018427387904) :
    Calls Tryd.prog 24 #[.string s] w fun e w' => e = .returned (.bool (isNat s.data.toList)) ∧ w = w' := by
  by_cases h0 : s.size = 0
  · have he : s.toList.isEmpty = true := by rw [toList_empty]; simpa using h0
    have hr := isNat_empty h0
    have HR := Lib.hid hr; clear hr h0
    go_enter Tryd.func24, Tryd.ntmps24
    go_wp2
    go_ret
    exact ⟨ret_bool (by rw [HR.out]), rfl⟩
  · have he : s.toList.isEmpty = false := by rw [toList_empty]; simpa using h0
    have h0' : 0 < s.size := by omega
    clear h0
    by_cases hz : s[0].toNat = 48 ∧ 1 < s.size
    · obtain ⟨hz1, hz2⟩ := hz
      have hr := isNat_lead h0' hz1 hz2
      have HR := Lib.hid hr; clear hr
      have hz3 : (s[0].toNat : Int) = 48 := by omega
      clear hz1
      go_enter Tryd.func24, Tryd.ntmps24
      go_wp2
      go_ret
      exact ⟨ret_bool (by rw [HR.out]), rfl⟩
    · have HZ := Lib.hid hz
      have hzz : (¬ (s[0].toNat : Int) = 48) ∨ ((s[0].toNat : Int) = 48 ∧ s.size ≤ 1) := by
        by_cases h : s[0].toNat = 48
        · exact .inr ⟨by omega, by omega⟩
        · exact .inl (by omega)
      clear hz
      rcases hzz with hzz | ⟨hzz, hz1⟩
      all_goals
        go_enter Tryd.func24, Tryd.ntmps24
        go_wp2
        go_loop [18] (fun i => ∃ k : Nat, k ≤ s.size ∧ i = .int .i64 k ∧ Hid (∀ j (hj : j < s.size), j < k → 48 ≤ s[j].toNat ∧ s[j].toNat ≤ 57)) (fun i => s.size - (intOf i).toNat)
        case atStart => exact ⟨0, Nat.zero_le _, rfl, fun j _ h => absurd h (Nat.not_lt_zero j)⟩
        case round =>
          obtain ⟨k, hk, rfl, HJ⟩ := hrel
          by_cases hlt : k < s.size
          · by_cases hb : s[k].toNat < 48 ∨ 57 < s[k].toNat
            · have hr := isNat_bad hlt hb
              have HR := Lib.hid hr; clear hr
              have hb' : (s[k].toNat : Int) < 48 ∨ (¬ (s[k].toNat : Int) < 48 ∧ (57 : Int) < (s[k].toNat : Int)) := by omega
              clear hb
              rcases hb' with hb | ⟨hb, hb2⟩
              all_goals
                go_wp2
                go_ret
                exact ⟨ret_bool (by rw [HR.out]), rfl⟩
            · have hb1 : ¬ (s[k].toNat : Int) < 48 := by omega
              have hb2 : ¬ (57 : Int) < (s[k].toNat : Int) := by omega
              have HB := Lib.hid hb; clear hb
              go_wp2
              go_round
              case rel => exact ⟨k + 1, by omega, by go_num, fun j hj h => by
                by_cases e : j = k
                · subst e; have := HB.out; omega
                · exact HJ.out j hj (by omega)⟩
              case measure => simp [intOf]; omega
          · obtain rfl : k = s.size := by omega
            have hr := isNat_good h0' HZ.out (fun j hj => HJ.out j hj hj)
            have HR := Lib.hid hr; clear hr
            go_wp2
            go_ret
            exact ⟨ret_bool (by rw [HR.out]), rfl⟩
end Go.Proofs.YtcekdidefomkfaaDoor
