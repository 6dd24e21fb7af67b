/- nat.combine: m times a and n times b together. -/
import Derived.Deep.QuietTactic
import Derived.BigQuiet
import Derived.Test.YtcekdidefomkfaaDoorSum
import Derived.Test.YtcekdidefomkfaaDoorNumG
namespace Go.Proofs.YtcekdidefomkfaaDoor
open Go.RowKit

set_option maxRecDepth 100000 in
set_option maxHeartbeats 1000000 in
theorem combine_any (w : World) (va vb : Value) (A B T : Nat) (m n : Int) (ha : LimN w va A) (hb : LimN w vb B) (hA : Big A) (hB : Big B) (hm : -1000000000 < m ∧ m < 1000000000) (hn : -1000000000 < n ∧ n < 1000000000)
    (hT : (T : Int) = m * A + n * B) (hle : T ≤ A ∨ T ≤ B) :
    Calls Tryd.prog 87 #[va, vb, .int .i64 m, .int .i64 n] w (GiveN w T) := by
  obtain ⟨xs, la, na, rfl⟩ := ha
  obtain ⟨ys, lb, nb, rfl⟩ := hb
  have b1 := na.big hA
  have b2 := nb.big hB
  clear hA hB
  obtain ⟨aa, ca, rfl⟩ := la.form
  obtain ⟨ab, cb, rfl⟩ := lb.form
  have hsx := la.1
  have hsy := lb.1
  have hmm : ∃ N, xs.length ≤ N ∧ ys.length ≤ N ∧ N ≤ 1073741824 ∧ ((N = ys.length ∧ xs.length < N) ∨ (N = xs.length ∧ ys.length ≤ N)) := by
    rcases Nat.lt_or_ge xs.length ys.length with h | h
    · exact ⟨ys.length, by omega, by omega, by omega, .inl ⟨rfl, by omega⟩⟩
    · exact ⟨xs.length, by omega, by omega, by omega, .inr ⟨rfl, by omega⟩⟩
  obtain ⟨N, hx, hy, hb, hcase⟩ := hmm
  have hTN : T < Bp N := by
    have v1 := valL_lt hsx
    have v2 := valL_lt hsy
    have p1 := Bp_mono hx
    have p2 := Bp_mono hy
    omega
  have hT2 := hT
  have HT := Lib.hid hT2
  have HTN := Lib.hid hTN
  clear b1 b2 hT hT2 hle hTN
  have HX := Lib.hid hx; clear hx
  have HY := Lib.hid hy; clear hy
  rcases hcase with ⟨hN, hlt⟩ | ⟨hN, hlt⟩
  all_goals
    have hN' := hN.symm
    clear hN
    (first | rw [hN'] at la | rw [hN'] at lb)
    go_enter Tryd.func87, Tryd.ntmps87
    go_wp2_with (at_make; refine wpList_make_limbs _ rfl _ _ rfl _ _ _ _ N rfl rfl (by omega) (by omega) (by omega) ?_; intro w1 hmade)
    clear hN'
    go_loopw [10, 22] (fun c i wr => ∃ (k : Nat) (cy : Int) (zs : List Nat), k ≤ N ∧ i = .int .i64 k ∧ c = .int .i64 cy ∧ CombRel xs ys m n N zs k cy ∧ Arr wr w.heap.size 0 zs ∧ Wr w1 wr w.heap.size 0 N) (fun _ i _ => N - (intOf i).toNat)
    case atStart => exact ⟨0, 0, _, Nat.zero_le _, rfl, rfl, CombRel.start xs ys m n N, hmade.arr, Wr.refl _ _ _ _⟩
    case round =>
      obtain ⟨k, cy, zs, hk, rfl, rfl, hr, haz, hw⟩ := hrel
      have hbw : Below w.heap.size w wr := hmade.below.trans (hw.below (Nat.le_refl _) (by rw [hmade.size]; omega))
      by_cases hlt : k < N
      · have c1 := haz k (by rw [hr.1]; exact hlt)
        have f1 := hw.free hmade.free k hlt
        rw [Nat.zero_add] at c1 f1
        have b1 := hsx.gl k
        have b2 := hsy.gl k
        have b3 := hr.2.2.1
        have b4 := mul_small hm.1 hm.2 b1
        have b5 := mul_small hn.1 hn.2 b2
        obtain ⟨b31, b32⟩ := b3
        obtain ⟨b41, b42⟩ := b4
        obtain ⟨b51, b52⟩ := b5
        obtain ⟨al, hal⟩ : ∃ al : Int, m * (gl xs k : Int) + n * (gl ys k : Int) + cy = al := ⟨_, rfl⟩
        obtain ⟨c0, l0, hc0, hl0, hcl, hlo, hhi⟩ : ∃ c0 l0 : Int, al.tdiv 1000000000 = c0 ∧ al.tmod 1000000000 = l0 ∧ al = 1000000000 * c0 + l0 ∧ -1000000000 < l0 ∧ l0 < 1000000000 :=
          ⟨_, _, rfl, rfl, (Int.mul_tdiv_add_tmod al 1000000000).symm, tm_lo al, tm_hi al⟩
        have hal1 : -2000000000000000000 ≤ al := by omega
        have hal2 : al ≤ 2000000000000000000 := by omega
        have hcb1 : -2000000001 ≤ c0 := by omega
        have hcb2 : c0 ≤ 2000000001 := by omega
        have hsplit : (∃ low : Nat, l0 = (low : Int) ∧ low < 1000000000) ∨ (l0 < 0 ∧ ∃ low : Nat, l0 + 1000000000 = (low : Int) ∧ low < 1000000000) := by
          rcases (by omega : 0 ≤ l0 ∨ l0 < 0) with h | h
          · exact .inl ⟨l0.toNat, by omega, by omega⟩
          · exact .inr ⟨h, (l0 + 1000000000).toNat, by omega, by omega⟩
        rcases hsplit with ⟨low, hlw, hlb⟩ | ⟨hneg, low, hlw, hlb⟩
        · subst hlw
          have hst := hr.step hlt hlb hm hn hsx hsy (cy' := c0) (by omega)
          have hset := haz.set (k := k) (by rw [hr.1]; exact hlt) low
          rw [Nat.zero_add] at hset
          have HS := Lib.hid hst; have HA := Lib.hid hset
          clear hst hset hr haz hcl hlo hhi
          go_wp2_with fail
          refine (at_nat _ _ _ k (la.below hbw) (by omega)).mono ?_
          rintro e w' ⟨rfl, rfl⟩
          go_wp2_with fail
          refine (at_nat _ _ _ k (lb.below hbw) (by omega)).mono ?_
          rintro e w' ⟨rfl, rfl⟩
          go_wp2_with fail
          go_roundw
          case rel => exact ⟨k + 1, _, _, by omega, by go_num, rfl, HS.out, HA.out, hw.set _ (by omega) (by omega)⟩
          case measure => simp [intOf]; omega
        · have hst := hr.step hlt hlb hm hn hsx hsy (cy' := c0 - 1) (by omega)
          have hset := haz.set (k := k) (by rw [hr.1]; exact hlt) low
          rw [Nat.zero_add] at hset
          have HS := Lib.hid hst; have HA := Lib.hid hset
          clear hst hset hr haz hcl
          go_wp2_with fail
          refine (at_nat _ _ _ k (la.below hbw) (by omega)).mono ?_
          rintro e w' ⟨rfl, rfl⟩
          go_wp2_with fail
          refine (at_nat _ _ _ k (lb.below hbw) (by omega)).mono ?_
          rintro e w' ⟨rfl, rfl⟩
          go_wp2_with fail
          go_roundw
          case rel => exact ⟨k + 1, _, _, by omega, by go_num, rfl, HS.out, HA.out, hw.set _ (by omega) (by omega)⟩
          case measure => simp [intOf]; omega
      · obtain rfl : k = N := by omega
        have hd := hr.done HX.out HY.out HT.out HTN.out
        have HD := Lib.hid hd; clear hd
        have hsz : wr.heap.size = w.heap.size + 1 := by rw [hw.size, hmade.size]
        have HZ := Lib.hid hsz; clear hsz
        go_wp2_with (go_at_call 76; refine (trim_any w.heap.size 0 k k zs _ HD.out.1 HD.out.2.1 (by omega) (by omega) (by rw [HZ.out]; omega) haz).mono ?_; rintro e w2 ⟨v, rfl, hv, hbl⟩)
        go_ret
        exact ⟨v, rfl, by rw [← HD.out.2.2]; exact hv, hbw.trans (hbl.mono hbw.size)⟩
end Go.Proofs.YtcekdidefomkfaaDoor
