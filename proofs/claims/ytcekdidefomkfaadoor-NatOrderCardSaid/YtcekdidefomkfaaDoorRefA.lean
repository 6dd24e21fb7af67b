/- The document's own answer for naturals: May, at, trim, Cmp, to the same plain functions. -/
import Derived.Lib.IndexBytes
import Derived.Test.YtcekdidefomkfaaDoorMay
import Derived.Test.YtcekdidefomkfaaDoorNumF
import Derived.Test.YtcekdidefomkfaaDoorApi4
namespace Go.Proofs.YtcekdidefomkfaaDoor
open Go.RowKit

theorem toList_is {s : ByteArray} {l : List UInt8} (h : s.data.toList = l) : s.toList = l := (ByteArray.toList_eq s).trans h
theorem eqB_true {s : ByteArray} {l : List UInt8} (h : s.data.toList = l) : (s.toList == l) = true := by rw [toList_is h]; exact beq_self_eq_true l
theorem eqB_false {s : ByteArray} {l : List UInt8} (h : s.data.toList ≠ l) : (s.toList == l) = false := by
  rw [ByteArray.toList_eq]; exact beq_false_of_ne h
theorem eqS_false {s : ByteArray} {l : List UInt8} (h : s.data.toList ≠ l) : ¬ s.toList = l := by
  rw [ByteArray.toList_eq]; exact h
theorem gb_idx (s : ByteArray) {j : Nat} (h : j < s.size) : gb s.data.toList j = s[j] := by
  unfold gb; rw [byte_at s j h]; rfl

set_option maxHeartbeats 400000 in
theorem rmay_any (s : ByteArray) (w : World) (hs : s.size ≤ 4611686018427387904) :
    Calls Tryd.prog 25 #[.string s] w fun e w' => e = .returned (.bool (isNat s.data.toList)) ∧ w = w' := by
  go_enter Tryd.func25, Tryd.ntmps25
  go_wp2
  go_loop [3] (fun i => ∃ k : Nat, k ≤ s.size ∧ i = .int .i64 k ∧ Hid (∀ j (hj : j < s.size), j < k → 48 ≤ s[j].toNat ∧ s[j].toNat ≤ 57)) (fun i => s.size - (intOf i).toNat)
  case atStart => exact ⟨0, Nat.zero_le _, rfl, fun j _ h => absurd h (Nat.not_lt_zero j)⟩
  case round =>
    obtain ⟨k, hk, rfl, HJ⟩ := hrel
    by_cases hlt : k < s.size
    · by_cases hb : s[k].toNat < 48 ∨ 57 < s[k].toNat
      · have hr := isNat_bad hlt hb
        have HR := Lib.hid hr; clear hr
        have hb' : (s[k].toNat : Int) < 48 ∨ (¬ (s[k].toNat : Int) < 48 ∧ (57 : Int) < (s[k].toNat : Int)) := by omega
        clear hb
        rcases hb' with hb | ⟨hb, hb2⟩
        all_goals
          go_wp2
          go_ret
          exact ⟨ret_bool (by rw [HR.out]), rfl⟩
      · have hb1 : ¬ (s[k].toNat : Int) < 48 := by omega
        have hb2 : ¬ (57 : Int) < (s[k].toNat : Int) := by omega
        have HB := Lib.hid hb; clear hb
        go_wp2
        go_round
        case rel => exact ⟨k + 1, by omega, by go_num, fun j hj h => by
          by_cases e : j = k
          · subst e; have := HB.out; omega
          · exact HJ.out j hj (by omega)⟩
        case measure => simp [intOf]; omega
    · obtain rfl : k = s.size := by omega
      rcases Nat.eq_zero_or_pos s.size with h0 | h0
      · have hr := isNat_empty h0
        have HR := Lib.hid hr; clear hr HJ
        have h1 : ¬ (0 : Int) < (s.size : Int) := by omega
        clear h0
        go_wp2
        go_ret
        exact ⟨ret_bool (by rw [HR.out]), rfl⟩
      · have hgood := isNat_good h0
        have HG := Lib.hid hgood; clear hgood
        by_cases h1 : s.data.toList = [48]
        · have hsz : s.size = 1 := by rw [← size_toList, h1]; rfl
          have hr : isNat s.data.toList = true := by rw [h1]; decide
          have HR := Lib.hid hr; clear hr
          have e1 := eqB_true h1
          have e2 := toList_is h1
          clear h1 hsz HJ
          go_wp2
          go_ret
          exact ⟨ret_bool (by rw [HR.out]), rfl⟩
        · have e1 := eqB_false h1
          have e2 := eqS_false h1
          by_cases hz : s[0].toNat = 48
          · have hl : 1 < s.size := by
              rcases Nat.lt_or_ge 1 s.size with h | h
              · exact h
              · exfalso
                apply h1
                have hb := byte_at s 0 h0
                have hlen : s.data.toList.length = 1 := by rw [size_toList]; omega
                match hl : s.data.toList, hlen with
                | [c], _ =>
                  rw [hl] at hb
                  have hc : c = s[0] := by simpa using hb
                  rw [hc, UInt8.toNat_inj.1 (show s[0].toNat = (48 : UInt8).toNat from hz)]
            have hr := isNat_lead h0 hz hl
            have HR := Lib.hid hr; clear hr HJ h1
            have hz' : (s[0].toNat : Int) = 48 := by omega
            clear hz
            go_wp2
            go_ret
            exact ⟨ret_bool (by rw [HR.out]), rfl⟩
          · have hr := HG.out (fun h => hz h.1) (fun j hj => HJ.out j hj hj)
            have HR := Lib.hid hr; clear hr HJ h1
            have hz' : ¬ (s[0].toNat : Int) = 48 := by omega
            clear hz
            go_wp2
            go_ret
            exact ⟨ret_bool (by rw [HR.out]; simpa using hz'), rfl⟩

set_option maxHeartbeats 400000 in
theorem rat_any (s : ByteArray) (i : Nat) (w : World) (hs : s.size ≤ 4611686018427387904) (hi : i ≤ 4611686018427387904) (hd : s.data.toList.all isDig = true) :
    Calls Tryd.prog 60 #[.string s, .int .i64 (i : Int)] w fun e w' => e = .returned (.int .i64 ((dgS s.data.toList i : Nat) : Int)) ∧ w = w' := by
  rcases Nat.lt_or_ge i s.size with h | h
  · have hb := gb_dig hd (j := s.size - 1 - i) (by rw [size_toList]; omega)
    have hr : dgS s.data.toList i = (gb s.data.toList (s.size - 1 - i)).toNat - 48 := by
      unfold dgS; rw [if_pos (by rw [size_toList]; exact h), size_toList]
    obtain ⟨j, hj⟩ : ∃ j, s.size - 1 - i = j := ⟨_, rfl⟩
    rw [hj] at hb hr
    have hj1 : j < s.size := by omega
    have hj2 : (s.size : Int) - 1 - (i : Int) = (j : Int) := by omega
    rw [gb_idx s hj1] at hb hr
    have hr2 : ((dgS s.data.toList i : Nat) : Int) = (s[j].toNat : Int) - 48 := by omega
    rw [hr2]
    obtain ⟨hb1, hb2⟩ := hb
    have h' : ¬ (s.size : Int) ≤ (i : Int) := by omega
    clear hr hr2 hj hd
    go_enter Tryd.func60, Tryd.ntmps60
    go_wp2
    go_ret
    exact ⟨rfl, rfl⟩
  · have hr : dgS s.data.toList i = 0 := dgS_beyond (by rw [size_toList]; exact h)
    rw [hr]
    clear hr hd
    go_enter Tryd.func60, Tryd.ntmps60
    go_wp2
    go_ret
    exact ⟨rfl, rfl⟩

theorem str_drop {s : ByteArray} {k : Nat} {l : List UInt8} (h : s.data.toList.drop k = l) : s.extract k s.size = ⟨l.toArray⟩ := by
  have := Lib.extract_to_end s k
  rw [h] at this
  cases he : s.extract k s.size with
  | mk d => rw [he] at this; rw [← this]

set_option maxHeartbeats 400000 in
theorem rtrim_any (s : ByteArray) (w : World) (hs : s.size ≤ 4611686018427387904) (h0 : 0 < s.size) (hd : s.data.toList.all isDig = true) :
    Calls Tryd.prog 61 #[.string s] w fun e w' => e = .returned (.string ⟨(dig (valS s.data.toList)).toArray⟩) ∧ w = w' := by
  have HD := Lib.hid hd; clear hd
  go_enter Tryd.func61, Tryd.ntmps61
  go_wp2
  go_loop [3] (fun i => ∃ k : Nat, k < s.size ∧ i = .int .i64 k ∧ Hid (∀ j, j < k → gb s.data.toList j = 48)) (fun i => s.size - (intOf i).toNat)
  case atStart => exact ⟨0, h0, rfl, fun j h => absurd h (Nat.not_lt_zero j)⟩
  case round =>
    obtain ⟨k, hk, rfl, HJ⟩ := hrel
    by_cases hlt : k + 1 < s.size
    · by_cases hz : s[k].toNat = 48
      · have hz' : (s[k].toNat : Int) = 48 := by omega
        have HZ := Lib.hid hz; clear hz
        go_wp2
        go_round
        case rel => exact ⟨k + 1, hlt, by go_num, fun j h => by
          by_cases e : j = k
          · subst e; rw [gb_idx s hk]; exact UInt8.toNat_inj.1 HZ.out
          · exact HJ.out j (by omega)⟩
        case measure => simp [intOf]; omega
      · have hz' : ¬ (s[k].toNat : Int) = 48 := by omega
        have hr := str_drop (drop_zeros HD.out (i := k) (by rw [size_toList]; exact hk) HJ.out (.inr (by rw [gb_idx s hk]; intro e; exact hz (by rw [e]; rfl))))
        have HR := Lib.hid hr; clear hr hz HJ
        go_wp2
        go_ret
        exact ⟨ret_str (by rw [HR.out]), rfl⟩
    · have hr := str_drop (drop_zeros HD.out (i := k) (by rw [size_toList]; exact hk) HJ.out (.inl (by rw [size_toList]; omega)))
      have HR := Lib.hid hr; clear hr HJ
      go_wp2
      go_ret
      exact ⟨ret_str (by rw [HR.out]), rfl⟩
end Go.Proofs.YtcekdidefomkfaaDoor
