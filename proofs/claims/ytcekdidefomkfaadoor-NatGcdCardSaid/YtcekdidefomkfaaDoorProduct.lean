/- nat.product. -/
import Derived.Test.YtcekdidefomkfaaDoorSum
import Derived.Test.YtcekdidefomkfaaDoorAddTimes
namespace Go.Proofs.YtcekdidefomkfaaDoor
open Go.RowKit

set_option maxRecDepth 100000 in
set_option maxHeartbeats 400000 in
theorem product_some (w : World) (b off ca : Nat) (ab : Option Addr) (cb : Nat) (xs ys : List Nat) (m n : Nat) (hm : xs.length = m) (hn : ys.length = n) (hmb : m ≤ 1073741824) (hnb : n ≤ 1073741824) (hsx : Small xs) (hbk : b < w.heap.size) (hax : Arr w b off xs)
    (lb : Lim w (.slice ab n cb) ys) :
    Calls Tryd.prog 67 #[.slice (some ⟨b, off, none⟩) m ca, .slice ab n cb] w (GiveN w (valL xs * valL ys)) := by
  have hsy := lb.1
  have HM := Lib.hid hm; clear hm
  have HN := Lib.hid hn; clear hn
  go_enter Tryd.func67, Tryd.ntmps67
  go_wp2_with (at_make; refine wpList_make_limbs _ rfl _ _ rfl _ _ _ _ (m + n) rfl rfl (by omega) (by omega) (by omega) ?_; intro w1 hmade)
  go_loopw [16] (fun i wr => ∃ (k : Nat) (zs : List Nat), k ≤ m ∧ i = .int .i64 k ∧ ProdRel xs ys (m + n) zs k ∧ Arr wr w.heap.size 0 zs ∧ Wr w1 wr w.heap.size 0 (m + n)) (fun i _ => m - (intOf i).toNat)
  case atStart => exact ⟨0, _, Nat.zero_le _, rfl, ProdRel.start xs ys (m + n), hmade.arr, Wr.refl _ _ _ _⟩
  case round =>
    obtain ⟨k, zs, hk, rfl, hr, haz, hw⟩ := hrel
    have hbw : Below w.heap.size w wr := hmade.below.trans (hw.below (Nat.le_refl _) (by rw [hmade.size]; omega))
    by_cases hlt : k < m
    · have c2 := hax.below hbw hbk k (by rw [HM.out]; exact hlt)
      have b1 := hsx.gl k
      have hlb := lb.below hbw
      have hne : ∀ b off m c, (Value.slice ab n cb) = .slice (some ⟨b, off, none⟩) m c → b ≠ w.heap.size := fun b' off' m' c' e => by
        obtain ⟨_, ⟨h1, _⟩ | ⟨b2, o2, c2, h1, _, _, h3, _⟩⟩ := lb
        · rw [h1] at e; cases e
        · rw [h1] at e; cases e; omega
      have hz0 : zs.length = m + n := hr.1
      have hax2 : Arr wr w.heap.size (0 + k) (window zs k n) := haz.window (by omega)
      have hfr2 : Free wr w.heap.size (0 + k) n := (hw.free hmade.free).window (k := k) (m := n) (by omega)
      have hfl : wr.frozen? ⟨w.heap.size, k + n, none⟩ = false := by have := hw.free hmade.free (k + n) (by omega); rwa [Nat.zero_add] at this
      have hco := haz (k + n) (by omega)
      have hcall := addTimes_any wr w.heap.size (0 + k) n (m + n - k) (.slice ab n cb) (window zs k n) ys (gl xs k : Nat) (by omega) (by omega) (hr.2.1.window k n) (window_length (by omega)) HN.out hlb hne hax2 hfr2
      rw [Int.toNat_natCast, Nat.zero_add] at hcall
      have HC := Lib.hid hcall; clear hcall hne hax2 hfr2
      have HZ := Lib.hid hz0; clear hz0
      go_wp2_with fail
      refine HC.out.mono ?_
      rintro e w2 ⟨ws, cy, rfl, hl, hs, hc, he, ha2, hw2⟩
      have hst := hr.step (cy := cy) (ws := ws) hsx (by rw [HN.out]; omega) (by rw [hl, HN.out]) hs hc (by rw [HN.out]; exact he)
      rw [HN.out] at hst
      have hsp : Arr w2 w.heap.size 0 (splice zs k ws) := haz.splice (by rw [hl, HZ.out]; omega) (by rw [hl, Nat.zero_add]; exact hw2) (by rw [Nat.zero_add]; exact ha2)
      have hset := hsp.set (k := k + n) (by rw [splice_length (by rw [hl, HZ.out]; omega), HZ.out]; omega) cy
      rw [Nat.zero_add] at hset
      have c3 : w2.cell? ⟨w.heap.size, k + n, none⟩ = some (.int .u64 ((gl zs (k + n) : Nat) : Int)) := by
        rw [hw2.cell (k + n) (by omega)]
        rw [Nat.zero_add] at hco
        exact hco
      have f3 : w2.frozen? ⟨w.heap.size, k + n, none⟩ = false := (hw2.frozen _).trans hfl
      have hwr : Wr w1 w2 w.heap.size 0 (m + n) := hw.trans (hw2.mono (by omega) (by omega))
      have HST := Lib.hid hst; have HSE := Lib.hid hset
      clear hst hset hl he hco hc
      go_wp2_with fail
      go_roundw
      case rel => exact ⟨k + 1, _, by omega, by go_num, HST.out, HSE.out, hwr.set _ (by omega) (by omega)⟩
      case measure => simp [intOf]; omega
    · obtain rfl : k = m := by omega
      have hv := hr.2.2.1
      rw [show sumTo (gl xs) k = valL xs from by unfold valL; rw [HM.out]] at hv
      have HV := Lib.hid hv; clear hv
      have hl := hr.1
      have HL := Lib.hid hl; clear hl
      have hsz : wr.heap.size = w.heap.size + 1 := by rw [hw.size, hmade.size]
      have HZ := Lib.hid hsz; clear hsz
      go_wp2_with (go_at_call 76; refine (trim_any w.heap.size 0 (k + n) (k + n) zs _ HL.out hr.2.1 (by omega) (by omega) (by rw [HZ.out]; omega) haz).mono ?_; rintro e w2 ⟨v, rfl, hv, hbl⟩)
      go_ret
      exact ⟨v, rfl, by rw [← HV.out]; exact hv, hbw.trans (hbl.mono hbw.size)⟩

set_option maxRecDepth 100000 in
set_option maxHeartbeats 400000 in
theorem product_none (w : World) (ab : Option Addr) (n cb : Nat) (hnb : n ≤ 1073741824) :
    Calls Tryd.prog 67 #[.slice none 0 0, .slice ab n cb] w (GiveN w 0) := by
  go_enter Tryd.func67, Tryd.ntmps67
  go_wp2_with (at_make; refine wpList_make_limbs _ rfl _ _ rfl _ _ _ _ n rfl rfl (by omega) (by omega) (by omega) ?_; intro w1 hmade)
  go_loop [16] (fun i => i = .int .i64 0) (fun _ => 0)
  case atStart => exact rfl
  case round =>
    obtain rfl := hrel
    have hsz : w1.heap.size = w.heap.size + 1 := hmade.size
    have HZ := Lib.hid hsz; clear hsz
    go_wp2_with (go_at_call 76; refine (trim_any w.heap.size 0 n n (List.replicate n 0) _ List.length_replicate (Small.zeros n) (by omega) (by omega) (by rw [HZ.out]; omega) hmade.arr).mono ?_; rintro e w2 ⟨v, rfl, hv, hbl⟩)
    go_ret
    exact ⟨v, rfl, by rw [show valL (List.replicate n 0) = 0 from sumTo_zero (fun j _ => gl_zeros n j)] at hv; exact hv, hmade.below.trans (hbl.mono hmade.below.size)⟩

theorem product_any (w : World) (va vb : Value) (m n : Nat) (ha : LimN w va m) (hb : LimN w vb n) (hm : Big m) (hn : Big n) :
    Calls Tryd.prog 67 #[va, vb] w (GiveN w (m * n)) := by
  obtain ⟨xs, la, na, rfl⟩ := ha
  obtain ⟨ys, lb, nb, rfl⟩ := hb
  have b1 := na.big hm
  have b2 := nb.big hn
  obtain ⟨ab, cb, rfl⟩ := lb.form
  obtain ⟨hsx, ⟨rfl, rfl⟩ | ⟨b, off, cap, rfl, hcap, hcm, hbk, hax⟩⟩ := la
  · rw [valL_nil, Nat.zero_mul]
    exact product_none w ab ys.length cb b2
  · exact product_some w b off cap ab cb xs ys _ _ rfl rfl b1 b2 hsx hbk hax lb
end Go.Proofs.YtcekdidefomkfaaDoor
