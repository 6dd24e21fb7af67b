/- nat.sum, nat.difference. -/
import Derived.Deep.QuietTactic
import Derived.BigQuiet
import Derived.Test.YtcekdidefomkfaaDoorAt
import Derived.Test.YtcekdidefomkfaaDoorTrim
import Derived.Test.YtcekdidefomkfaaDoorNumA
namespace Go.Proofs.YtcekdidefomkfaaDoor
open Go.RowKit

theorem info_u64 : (Tryd.prog.info? 62).map (fun i => (i.zero, i.size, i.bytes)) = some (some (.int .u64 0), 1, 8) := by kernel_rfl

/-- make(limbs, n): a new row of zeros, its world under a name. -/
theorem wpList_make_limbs (w : World) {ops : Array Oper} {rest : List Oper} {o : Oper} {a : Act} {Q : Exit → Act → World → Prop}
    (hg : o.guard = none) (l c : Operand) (hop : o.op = Op.makeSlice 44 l c) (kl kc : IntKind) (L C : Int) (n : Nat) (hl : a.eval l = .int kl L) (hc : a.eval c = .int kc C) (hL : L = (n : Int)) (hC : C = (n : Int))
    (h : n ≤ 4294967296) (hK : ∀ w', Made w w' n → wpList Tryd.prog ops Q rest (a.put o.dst (.slice (some ⟨w.heap.size, 0, none⟩) n n)) w') :
    wpList Tryd.prog ops Q (o :: rest) a w := by
  obtain ⟨i, hi, hz0, hz1, hz2⟩ := info_parts info_u64
  subst hL
  subst hC
  exact wpList_make_row w hg l c 44 hop 62 i (.int .u64 0) Tryd.underlying44 hi hz0 hz1 rfl kl kc n hl hc (by rw [hz2]; omega) (by omega) (hK _ (made w n 62))

set_option maxRecDepth 100000 in
set_option maxHeartbeats 400000 in
theorem sum_any (w : World) (va vb : Value) (m n : Nat) (ha : LimN w va m) (hb : LimN w vb n) (hm : Big m) (hn : Big n) :
    Calls Tryd.prog 66 #[va, vb] w (GiveN w (m + n)) := by
  obtain ⟨xs, la, na, rfl⟩ := ha
  obtain ⟨ys, lb, nb, rfl⟩ := hb
  have b1 := na.big hm
  have b2 := nb.big hn
  clear hm hn
  obtain ⟨aa, ca, rfl⟩ := la.form
  obtain ⟨ab, cb, rfl⟩ := lb.form
  have hsx := la.1
  have hsy := lb.1
  have hmm : ∃ m, xs.length ≤ m ∧ ys.length ≤ m ∧ m ≤ 1073741824 ∧ ((m = ys.length ∧ xs.length < m) ∨ (m = xs.length ∧ ys.length ≤ m)) := by
    rcases Nat.lt_or_ge xs.length ys.length with h | h
    · exact ⟨ys.length, by omega, by omega, by omega, .inl ⟨rfl, by omega⟩⟩
    · exact ⟨xs.length, by omega, by omega, by omega, .inr ⟨rfl, by omega⟩⟩
  obtain ⟨m, hx, hy, hb, hcase⟩ := hmm
  clear b1 b2
  have HX := Lib.hid hx; clear hx
  have HY := Lib.hid hy; clear hy
  rcases hcase with ⟨hm, hlt⟩ | ⟨hm, hlt⟩
  all_goals
    have hm' := hm.symm
    clear hm
    (first | rw [hm'] at la | rw [hm'] at lb)
    have HM := Lib.hid hm'
    go_enter Tryd.func66, Tryd.ntmps66
    go_wp2_with (at_make; refine wpList_make_limbs _ rfl _ _ rfl _ _ _ _ (m + 1) rfl rfl (by omega) (by omega) (by omega) ?_; intro w1 hmade)
    clear hm'
    go_loopw [6, 18] (fun c i wr => ∃ (k cy : Nat) (zs : List Nat), k ≤ m + 1 ∧ i = .int .i64 k ∧ c = .int .u64 cy ∧ SumRel xs ys (m + 1) zs k cy ∧ Arr wr w.heap.size 0 zs ∧ Wr w1 wr w.heap.size 0 (m + 1)) (fun _ i _ => m + 1 - (intOf i).toNat)
    case atStart => exact ⟨0, 0, _, Nat.zero_le _, rfl, rfl, SumRel.start xs ys (m + 1), hmade.arr, Wr.refl _ _ _ _⟩
    case round =>
      obtain ⟨k, cy, zs, hk, rfl, rfl, hr, haz, hw⟩ := hrel
      have hbw : Below w.heap.size w wr := hmade.below.trans (hw.below (Nat.le_refl _) (by rw [hmade.size]; omega))
      by_cases hlt : k < m + 1
      · have c1 := haz k (by rw [hr.1]; exact hlt)
        have f1 := hw.free hmade.free k hlt
        rw [Nat.zero_add] at c1 f1
        have b1 := hsx.gl k
        have b2 := hsy.gl k
        have b3 := hr.2.2.1
        have ha2 := haz.set (k := k) (by rw [hr.1]; exact hlt) ((gl xs k + gl ys k + cy) % 1000000000)
        have hst := hr.step hsx hsy hlt
        rw [cast_mod, Int.natCast_add, Int.natCast_add, Nat.zero_add] at ha2
        have HA := Lib.hid ha2; clear ha2
        have HS := Lib.hid hst; clear hst
        go_wp2_with fail
        refine (at_nat _ _ _ k (la.below hbw) (by omega)).mono ?_
        rintro e w' ⟨rfl, rfl⟩
        go_wp2_with fail
        refine (at_nat _ _ _ k (lb.below hbw) (by omega)).mono ?_
        rintro e w' ⟨rfl, rfl⟩
        go_wp2_with fail
        go_roundw
        case rel => exact ⟨k + 1, _, _, by omega, by go_num, congrArg (Value.int .u64) (by rw [cast_div, Int.natCast_add, Int.natCast_add]), HS.out, HA.out, hw.set _ (by omega) (by omega)⟩
        case measure => simp [intOf]; omega
      · obtain rfl : k = m + 1 := by omega
        have hd := hr.done hsx hsy HX.out HY.out
        have HD := Lib.hid hd; clear hd
        have hsz : wr.heap.size = w.heap.size + 1 := by rw [hw.size, hmade.size]
        have HZ := Lib.hid hsz; clear hsz
        go_wp2_with (go_at_call 76; refine (trim_any w.heap.size 0 (m + 1) (m + 1) zs _ HD.out.1 HD.out.2.1 (by omega) (by omega) (by rw [HZ.out]; omega) haz).mono ?_; rintro e w2 ⟨v, rfl, hv, hbl⟩)
        go_ret
        exact ⟨v, rfl, by rw [← HD.out.2.2]; exact hv, hbw.trans (hbl.mono hbw.size)⟩

set_option maxRecDepth 100000 in
set_option maxHeartbeats 400000 in
theorem difference_any (w : World) (va vb : Value) (m n : Nat) (ha : LimN w va m) (hb : LimN w vb n) (hm : Big m) (hle : n ≤ m) :
    Calls Tryd.prog 58 #[va, vb] w (GiveN w (m - n)) := by
  obtain ⟨xs, la, na, rfl⟩ := ha
  obtain ⟨ys, lb, nb, rfl⟩ := hb
  have b1 := na.big hm
  have hyx : ys.length ≤ xs.length := by
    rcases Nat.lt_or_ge xs.length ys.length with h | h
    · have := lt_of_shorter la.1 nb h
      omega
    · exact h
  clear hm
  obtain ⟨aa, ca, rfl⟩ := la.form
  have hsx := la.1
  have hsy := lb.1
  have HL := Lib.hid hle; clear hle
  have HY := Lib.hid hyx; clear hyx
  rcases la with ⟨_, ⟨he, rfl⟩ | ⟨b, off, cap, he, hcap, hcm, hbk, hax⟩⟩
  · simp only [List.length_nil, Value.slice.injEq] at he
    obtain ⟨rfl, _, rfl⟩ := he
    obtain rfl : ys = [] := List.length_eq_zero_iff.1 (by have := HY.out; simpa using this)
    go_enter Tryd.func58, Tryd.ntmps58
    go_wp2_with (at_make; refine wpList_make_limbs _ rfl _ _ rfl _ _ _ _ 0 rfl rfl (by omega) (by omega) (by omega) ?_; intro w1 hmade)
    go_loop [6, 14] (fun c i => i = .int .i64 0 ∧ c = .int .u64 0) (fun _ _ => 0)
    case atStart => exact ⟨rfl, rfl⟩
    case round =>
      obtain ⟨rfl, rfl⟩ := hrel
      have hsz : w1.heap.size = w.heap.size + 1 := hmade.size
      have HZ := Lib.hid hsz; clear hsz
      go_wp2_with (go_at_call 76; refine (trim_any w.heap.size 0 0 0 [] _ rfl Small.nil (by omega) (by omega) (by rw [HZ.out]; omega) hmade.arr).mono ?_; rintro e w2 ⟨v, rfl, hv, hbl⟩)
      go_ret
      exact ⟨v, rfl, hv, hmade.below.trans (hbl.mono hmade.below.size)⟩
  · simp only [Value.slice.injEq] at he
    obtain ⟨rfl, _, rfl⟩ := he
    obtain ⟨m, hm⟩ : ∃ m, xs.length = m := ⟨_, rfl⟩
    rw [hm] at b1 hcap HY
    have HM := Lib.hid hm
    go_enter Tryd.func58, Tryd.ntmps58
    go_wp2_with (at_make; refine wpList_make_limbs _ rfl _ _ rfl _ _ _ _ m rfl rfl (by omega) (by omega) (by omega) ?_; intro w1 hmade)
    clear hm
    go_loopw [6, 14] (fun c i wr => ∃ (k bw : Nat) (zs : List Nat), k ≤ m ∧ i = .int .i64 k ∧ c = .int .u64 bw ∧ DiffRel xs ys m zs k bw ∧ Arr wr w.heap.size 0 zs ∧ Wr w1 wr w.heap.size 0 m) (fun _ i _ => m - (intOf i).toNat)
    case atStart => exact ⟨0, 0, _, Nat.zero_le _, rfl, rfl, DiffRel.start xs ys m, hmade.arr, Wr.refl _ _ _ _⟩
    case round =>
      obtain ⟨k, bw, zs, hk, rfl, rfl, hr, haz, hw⟩ := hrel
      have hbw : Below w.heap.size w wr := hmade.below.trans (hw.below (Nat.le_refl _) (by rw [hmade.size]; omega))
      by_cases hlt : k < m
      · have c1 := haz k (by rw [hr.1]; exact hlt)
        have c2 := hax.below hbw hbk k (by rw [HM.out]; exact hlt)
        have f1 := hw.free hmade.free k hlt
        rw [Nat.zero_add] at c1 f1
        have b1 := hsx.gl k
        have b2 := hsy.gl k
        have b3 := hr.2.2.1
        have ha2 := fun nq => (haz.drewN nq).set (k := k) (by rw [hr.1]; exact hlt) ((gl xs k + 1000000000 - gl ys k - bw) % 1000000000)
        have hst := hr.step hsx hsy hlt
        have e1 : ((gl xs k + 1000000000 - gl ys k - bw : Nat) : Int) = ↑(gl xs k) + 1000000000 - ↑(gl ys k) - ↑bw := by omega
        have e2 : ((1 - (gl xs k + 1000000000 - gl ys k - bw) / 1000000000 : Nat) : Int) = 1 - (↑(gl xs k) + 1000000000 - ↑(gl ys k) - ↑bw) / 1000000000 := by omega
        rw [cast_mod, e1, Nat.zero_add] at ha2
        have HA := Lib.hid ha2; clear ha2
        have HS := Lib.hid hst; clear hst
        have HE := Lib.hid e2; clear e1 e2
        go_wp2_with fail
        go_quiet ((go_at_call 75; exact Calls.quiet_of_same (at_same _ _ _ k ((lb.below hbw).drewN _) (by omega))))
        go_wp2_with fail
        go_roundw
        case rel => exact ⟨k + 1, _, _, by omega, by go_num, by rw [HE.out], HS.out, HA.out _, (hw.drewN _).set _ (by omega) (by omega)⟩
        case measure => simp [intOf]; omega
      · obtain rfl : k = m := by omega
        have hd := hr.done (Nat.le_of_eq HM.out) HY.out HL.out
        have HD := Lib.hid hd; clear hd
        have hsz : wr.heap.size = w.heap.size + 1 := by rw [hw.size, hmade.size]
        have HZ := Lib.hid hsz; clear hsz
        go_wp2_with (go_at_call 76; refine (trim_any w.heap.size 0 k k zs _ HD.out.1 HD.out.2.1 (by omega) (by omega) (by rw [HZ.out]; omega) haz).mono ?_; rintro e w2 ⟨v, rfl, hv, hbl⟩)
        go_ret
        exact ⟨v, rfl, by rw [← HD.out.2.2]; exact hv, hbw.trans (hbl.mono hbw.size)⟩
end Go.Proofs.YtcekdidefomkfaaDoor
