/- The document's answers for decimals: to plain functions. -/
import Derived.Test.YtdibnolbichbmaaGreatDoorAllRefQ4
import Derived.Test.YtdibnolbichbmaaGreatDoorDecNum
namespace Go.Proofs.YtdibnolbichbmaaGreatDoor
open Go.RowKit

def zerS (n : Int) : List UInt8 := List.replicate n.toNat 48
set_option maxHeartbeats 400000 in
theorem rdzeros_any (n : Int) (w : World) (h0 : -1000000 ≤ n) (h1 : n ≤ 1000000) :
    Calls Tryz.prog 18 #[.int .i64 n] w fun e w' => e = .returned (.string ⟨(zerS n).toArray⟩) ∧ w = w' := by
  go_enter Tryz.func18, Tryz.ntmps18
  go_wp2
  go_loop [3, 4] (fun s i => ∃ (k : Nat) (t : ByteArray), k ≤ n.toNat ∧ i = .int .i64 k ∧ s = .string t ∧ Hid (t.data.toList = List.replicate k 48)) (fun _ i => n.toNat - (intOf i).toNat)
  case atStart => exact ⟨0, ⟨#[]⟩, Nat.zero_le _, rfl, rfl, rfl⟩
  case round =>
    obtain ⟨k, t, hk, rfl, rfl, HT⟩ := hrel
    have hts : t.size ≤ 1000000 := by
      have := congrArg List.length HT.out
      rw [size_toList, List.length_replicate] at this
      omega
    by_cases hlt : (k : Int) < n
    · have hr : (t ++ (⟨#[48]⟩ : ByteArray)).data.toList = List.replicate (k + 1) 48 := by
        rw [ba_append, HT.out, List.replicate_succ']
      have HR := Lib.hid hr; clear hr
      go_wp2
      go_round
      case rel => exact ⟨k + 1, _, by omega, by go_num, rfl, HR.out⟩
      case measure => simp [intOf]; omega
    · have hr : t = ⟨(zerS n).toArray⟩ := bytes_eq (by
        rw [HT.out]
        show _ = zerS n
        unfold zerS
        rw [show k = n.toNat from by omega])
      have HR := Lib.hid hr; clear hr
      go_wp2
      go_ret
      exact ⟨ret_str HR.out, rfl⟩

set_option maxHeartbeats 400000 in
theorem rdplain_any (s : ByteArray) (w : World) (hs : s.size ≤ 4611686018427387904) (h0 : 0 < s.size) (hd : s.data.toList.all isDig = true) :
    Calls Tryz.prog 30 #[.string s] w fun e w' => e = .returned (.string ⟨(dig (valS s.data.toList)).toArray⟩) ∧ w = w' := by
  have HD := Lib.hid hd; clear hd
  go_enter Tryz.func30, Tryz.ntmps30
  go_wp2
  go_loop [3] (fun i => ∃ k : Nat, k < s.size ∧ i = .int .i64 k ∧ Hid (∀ j, j < k → gb s.data.toList j = 48)) (fun i => s.size - (intOf i).toNat)
  case atStart => exact ⟨0, h0, rfl, fun j h => absurd h (Nat.not_lt_zero j)⟩
  case round =>
    obtain ⟨k, hk, rfl, HJ⟩ := hrel
    by_cases hlt : k + 1 < s.size
    · by_cases hz : s[k].toNat = 48
      · have hz' : (s[k].toNat : Int) = 48 := by omega
        have HZ := Lib.hid hz; clear hz
        go_wp2
        go_round
        case rel => exact ⟨k + 1, hlt, by go_num, fun j h => by
          by_cases e : j = k
          · subst e; rw [gb_idx s hk]; exact UInt8.toNat_inj.1 HZ.out
          · exact HJ.out j (by omega)⟩
        case measure => simp [intOf]; omega
      · have hz' : ¬ (s[k].toNat : Int) = 48 := by omega
        have hr := str_drop (drop_zeros HD.out (i := k) (by rw [size_toList]; exact hk) HJ.out (.inr (by rw [gb_idx s hk]; intro e; exact hz (by rw [e]; rfl))))
        have HR := Lib.hid hr; clear hr hz HJ
        go_wp2
        go_ret
        exact ⟨ret_str (by rw [HR.out]), rfl⟩
    · have hr := str_drop (drop_zeros HD.out (i := k) (by rw [size_toList]; exact hk) HJ.out (.inl (by rw [size_toList]; omega)))
      have HR := Lib.hid hr; clear hr HJ
      go_wp2
      go_ret
      exact ⟨ret_str (by rw [HR.out]), rfl⟩

theorem digs_bad {s : ByteArray} {k : Nat} (hk : k < s.size) (hb : s[k].toNat < 48 ∨ 57 < s[k].toNat) : digs s.data.toList = false := by
  cases h : digs s.data.toList with
  | false => rfl
  | true =>
    have ha := (digs_parts h).1
    have := gb_dig ha (j := k) (by rw [size_toList]; exact hk)
    rw [gb_idx s hk] at this
    omega
theorem digs_good {s : ByteArray} (h0 : 0 < s.size) (h : ∀ j (hj : j < s.size), 48 ≤ s[j].toNat ∧ s[j].toNat ≤ 57) : digs s.data.toList = true := by
  refine digs_of ?_ (fun e => ?_)
  · rw [List.all_eq_true]
    intro c hc
    obtain ⟨j, hj, e⟩ := List.getElem_of_mem hc
    have hj' : j < s.size := by rw [← size_toList]; exact hj
    have h2 := h j hj'
    have h3 : gb s.data.toList j = c := by unfold gb; rw [List.getElem?_eq_getElem hj, e]; rfl
    rw [gb_idx s hj'] at h3
    rw [← h3]
    unfold isDig
    rw [decide_eq_true h2.1, decide_eq_true h2.2]; rfl
  · have := size_toList s
    rw [e] at this
    have h4 : ([] : List UInt8).length = 0 := rfl
    omega
set_option maxHeartbeats 400000 in
theorem rddigits_any (s : ByteArray) (w : World) (hs : s.size ≤ 4611686018427387904) :
    Calls Tryz.prog 29 #[.string s] w fun e w' => e = .returned (.bool (digs s.data.toList)) ∧ w = w' := by
  go_enter Tryz.func29, Tryz.ntmps29
  go_wp2
  go_loop [3] (fun i => ∃ k : Nat, k ≤ s.size ∧ i = .int .i64 k ∧ Hid (∀ j (hj : j < s.size), j < k → 48 ≤ s[j].toNat ∧ s[j].toNat ≤ 57)) (fun i => s.size - (intOf i).toNat)
  case atStart => exact ⟨0, Nat.zero_le _, rfl, fun j _ h => absurd h (Nat.not_lt_zero j)⟩
  case round =>
    obtain ⟨k, hk, rfl, HJ⟩ := hrel
    by_cases hlt : k < s.size
    · by_cases hb : s[k].toNat < 48 ∨ 57 < s[k].toNat
      · have hr := digs_bad hlt hb
        have HR := Lib.hid hr; clear hr
        have hb' : (s[k].toNat : Int) < 48 ∨ (¬ (s[k].toNat : Int) < 48 ∧ (57 : Int) < (s[k].toNat : Int)) := by omega
        clear hb
        rcases hb' with hb | ⟨hb, hb2⟩
        all_goals
          go_wp2
          go_ret
          exact ⟨ret_bool (by rw [HR.out]), rfl⟩
      · have hb1 : ¬ (s[k].toNat : Int) < 48 := by omega
        have hb2 : ¬ (57 : Int) < (s[k].toNat : Int) := by omega
        have HB := Lib.hid hb; clear hb
        go_wp2
        go_round
        case rel => exact ⟨k + 1, by omega, by go_num, fun j hj h => by
          by_cases e : j = k
          · subst e; have := HB.out; omega
          · exact HJ.out j hj (by omega)⟩
        case measure => simp [intOf]; omega
    · obtain rfl : k = s.size := by omega
      rcases Nat.eq_zero_or_pos s.size with h0 | h0
      · have hr : digs s.data.toList = false := by
          have : s.data.toList = [] := List.length_eq_zero_iff.1 (by rw [size_toList]; exact h0)
          rw [this]; rfl
        have HR := Lib.hid hr; clear hr HJ
        go_wp2
        go_ret
        exact ⟨ret_bool (by rw [HR.out]), rfl⟩
      · have hr := digs_good h0 (fun j hj => HJ.out j hj hj)
        have HR := Lib.hid hr; clear hr HJ
        go_wp2
        go_ret
        exact ⟨ret_bool (by rw [HR.out]), rfl⟩

/-- The place of a byte; -1. -/
def fndS (l : List UInt8) (c : UInt8) : Int := if l.idxOf c < l.length then (l.idxOf c : Int) else -1
theorem fnd_at {s : ByteArray} {k : Nat} {c : UInt8} (hk : k < s.size) (hc : s[k] = c) (hj : ∀ j (hj : j < s.size), j < k → s[j] ≠ c) : fndS s.data.toList c = (k : Int) := by
  have hk' : k < s.data.toList.length := by rw [size_toList]; exact hk
  have e : s.data.toList = s.data.toList.take k ++ c :: s.data.toList.drop (k + 1) := by
    have h1 : s.data.toList[k] = c := by
      have h2 := gb_idx s hk
      unfold gb at h2
      rw [List.getElem?_eq_getElem hk'] at h2
      exact h2.trans hc
    rw [← h1, ← List.drop_eq_getElem_cons hk', List.take_append_drop]
  have hn : c ∉ s.data.toList.take k := fun h => by
    obtain ⟨j, hj1, e1⟩ := List.getElem_of_mem h
    have hj2 : j < k := by rw [List.length_take] at hj1; omega
    have hj3 : j < s.size := by omega
    rw [List.getElem_take] at e1
    have h2 := gb_idx s hj3
    unfold gb at h2
    rw [List.getElem?_eq_getElem (by rw [size_toList]; exact hj3)] at h2
    exact hj j hj3 hj2 (h2.symm.trans e1)
  have hi : s.data.toList.idxOf c = k := by
    rw [e, idx_at hn, List.length_take]; omega
  unfold fndS
  rw [hi, if_pos hk']
theorem fnd_no {s : ByteArray} {c : UInt8} (hj : ∀ j (hj : j < s.size), s[j] ≠ c) : fndS s.data.toList c = -1 := by
  unfold fndS
  rw [if_neg (idx_none fun h => ?_)]
  obtain ⟨j, hj1, e1⟩ := List.getElem_of_mem h
  have hj3 : j < s.size := by rw [← size_toList]; exact hj1
  have h2 := gb_idx s hj3
  unfold gb at h2
  rw [List.getElem?_eq_getElem hj1] at h2
  exact hj j hj3 (h2.symm.trans e1)
theorem ret_i {a b : Int} (h : a = b) : Ending.returned (.int .i64 a) = .returned (.int .i64 b) := by rw [h]
set_option maxHeartbeats 400000 in
theorem rdfind_any (s : ByteArray) (c : UInt8) (w : World) (hs : s.size ≤ 4611686018427387904) :
    Calls Tryz.prog 28 #[.string s, .int .u8 (c.toNat : Int)] w fun e w' => e = .returned (.int .i64 (fndS s.data.toList c)) ∧ w = w' := by
  go_enter Tryz.func28, Tryz.ntmps28
  go_wp2
  go_loop [5] (fun i => ∃ k : Nat, k ≤ s.size ∧ i = .int .i64 k ∧ Hid (∀ j (hj : j < s.size), j < k → s[j] ≠ c)) (fun i => s.size - (intOf i).toNat)
  case atStart => exact ⟨0, Nat.zero_le _, rfl, fun j _ h => absurd h (Nat.not_lt_zero j)⟩
  case round =>
    obtain ⟨k, hk, rfl, HJ⟩ := hrel
    by_cases hlt : k < s.size
    · by_cases hb : s[k] = c
      · have hb' : (s[k].toNat : Int) = (c.toNat : Int) := by rw [hb]
        have hr := fnd_at hlt hb HJ.out
        have HR := Lib.hid hr; clear hr hb HJ
        go_wp2
        go_ret
        exact ⟨ret_i HR.out.symm, rfl⟩
      · have hb' : ¬ (s[k].toNat : Int) = (c.toNat : Int) := fun e => hb (UInt8.toNat_inj.1 (by omega))
        have HB := Lib.hid hb; clear hb
        go_wp2
        go_round
        case rel => exact ⟨k + 1, by omega, by go_num, fun j hj h => by
          by_cases e : j = k
          · subst e; exact HB.out
          · exact HJ.out j hj (by omega)⟩
        case measure => simp [intOf]; omega
    · obtain rfl : k = s.size := by omega
      have hr := fnd_no (fun j hj => HJ.out j hj hj)
      have HR := Lib.hid hr; clear hr HJ
      go_wp2
      go_ret
      exact ⟨ret_i HR.out.symm, rfl⟩
end Go.Proofs.YtdibnolbichbmaaGreatDoor
