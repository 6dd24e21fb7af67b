/- The document's own answer for naturals: Of. -/
import Derived.Laws.Concat
import Derived.Test.YtcekdidefomkfaaDoorRefB
namespace Go.Proofs.YtcekdidefomkfaaDoor
open Go.RowKit

theorem dig_length {n k : Nat} (hk : 0 < k) (h : n < 10 ^ k) : (dig n).length ≤ k := by
  induction k generalizing n with
  | zero => omega
  | succ k ih =>
    by_cases h10 : n < 10
    · rw [dig_small h10]; simp
    · rw [dig_big h10, List.length_append, List.length_singleton]
      have hk0 : 0 < k := by
        rcases Nat.eq_zero_or_pos k with rfl | h0
        · simp at h; omega
        · exact h0
      have := ih hk0 (n := n / 10) (by rw [Nat.pow_succ] at h; omega)
      omega
theorem digs_extract {d : Nat} (h : d < 10) : ByteArray.extract ⟨#[48, 49, 50, 51, 52, 53, 54, 55, 56, 57]⟩ d (d + 1) = ⟨#[digN d]⟩ := by
  revert d
  decide
theorem ba_append (s t : ByteArray) : (s ++ t).data.toList = s.data.toList ++ t.data.toList := by
  rw [ByteArray.data_append, Array.toList_append]
theorem digN_mod (m : Nat) : digN (m % 10) = digN m := by unfold digN; rw [Nat.mod_mod]
set_option maxRecDepth 100000 in
set_option maxHeartbeats 400000 in
theorem rof_any (n : Int) (w : World) (h0 : -9223372036854775808 ≤ n) (h1 : n ≤ 9223372036854775807) :
    Calls Tryd.prog 27 #[.int .i64 n] w fun e w' => e = .returned (.string ⟨(ofS n).toArray⟩) ∧ w = w' := by
  rcases (by omega : n < 0 ∨ 0 ≤ n) with h | h
  · have hr : ofS n = [] := by unfold ofS; rw [if_pos h]
    rw [hr]
    clear hr
    go_enter Tryd.func27, Tryd.ntmps27
    go_wp2
    go_ret
    exact ⟨rfl, rfl⟩
  · obtain ⟨N, rfl⟩ : ∃ N : Nat, n = (N : Int) := ⟨n.toNat, by omega⟩
    have hr : ofS (N : Int) = dig N := by unfold ofS; rw [if_neg (by omega)]; rfl
    rw [hr]
    have h19 : (9223372036854775807 : Nat) < 10 ^ 19 := by decide
    have hlen : (dig N).length ≤ 19 := dig_length (by decide) (by omega)
    clear h19
    have HL := Lib.hid hlen
    have h' : ¬ (N : Int) < 0 := by omega
    clear hr hlen h
    go_enter Tryd.func27, Tryd.ntmps27
    go_wp2
    go_loop [0, 3] (fun n s => ∃ (m : Nat) (t : ByteArray), n = .int .i64 m ∧ s = .string t ∧ m ≤ N ∧ Hid (dig N = dig m ++ t.data.toList)) (fun n _ => (intOf n).toNat)
    case atStart => exact ⟨N, ⟨#[]⟩, rfl, rfl, Nat.le_refl _, (List.append_nil _).symm⟩
    case round =>
      obtain ⟨m, t, rfl, rfl, hm, HT⟩ := hrel
      have hts : t.size ≤ 19 := by
        have := congrArg List.length HT.out
        rw [List.length_append, size_toList] at this
        have := HL.out
        omega
      by_cases hlt : m < 10
      · have hx := digs_extract hlt
        have hr : (⟨#[digN m]⟩ : ByteArray) ++ t = ⟨(dig N).toArray⟩ := bytes_eq (by rw [ba_append, HT.out, dig_small hlt])
        have HR := Lib.hid hr; clear hr
        go_wp2
        go_ret
        exact ⟨ret_str HR.out, rfl⟩
      · have hr : ((⟨#[48, 49, 50, 51, 52, 53, 54, 55, 56, 57]⟩ : ByteArray).extract (m % 10) (m % 10 + 1) ++ t).data.toList = digN m :: t.data.toList := by
          rw [digs_extract (Nat.mod_lt _ (by decide)), ba_append, digN_mod]; rfl
        have HR := Lib.hid hr; clear hr
        go_wp2
        go_round
        case rel => exact ⟨m / 10, _, by go_num, rfl, by omega, by rw [HR.out, HT.out, dig_big hlt, List.append_assoc]; rfl⟩
        case measure => simp [intOf]; omega
end Go.Proofs.YtcekdidefomkfaaDoor
