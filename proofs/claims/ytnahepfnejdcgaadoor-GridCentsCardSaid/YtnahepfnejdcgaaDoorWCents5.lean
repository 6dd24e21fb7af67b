/- The walk of GridCents. -/
import Derived.Deep.CutRange
import Derived.Test.YtnahepfnejdcgaaDoorFixG
namespace Go.Proofs.YtnahepfnejdcgaaDoor
open Go.RowKit
set_option linter.unusedSimpArgs false
set_option linter.unusedVariables false

theorem gd_parts5 {p : ByteArray × ByteArray} (h : gdQ p = true) : p.1.size ≤ 100 ∧ p.2.size ≤ 100 ∧ isR (p.1.data.toList, p.2.data.toList) = true := by
  unfold gdQ shQ at h
  rw [Bool.and_eq_true, Bool.and_eq_true, decide_eq_true_eq, decide_eq_true_eq] at h
  exact ⟨h.1.1, h.1.2, h.2⟩
theorem Lq.rnd {x g : Rat} {j k : Nat} (lx : Lq x j) (lg : Lq g k) (h0 : 0 < g) (m : Nat) (h : (j + k + 1 + 1) + k + 1 ≤ 10000) : Lq (rndQ m x g) ((j + k + 1 + 1) + k + 1) := by
  have lq := Lq.div lx lg (ne_of_pos h0) (by omega)
  have lw : Lq ((whQ m (x / g) : Int) : Rat) (j + k + 1 + 1) := Lq.whole (whS_len lq m) (by omega) (by omega)
  exact Lq.mul lw lg h
theorem Lq.cent : Lq (Rat.divInt 1 100) 3 := Lq.divInt (by decide) (by decide) (by decide) (by decide) (by decide)
set_option maxRecDepth 100000 in
set_option maxHeartbeats 4000000 in
theorem cents5_a (n c r e f g : Int) {x1 x2 y1 y2 z1 z2 v1 v2 : List UInt8} (w : World) (h0 : ¬ n < 0) (h1 : ¬ 10000000 < n) (hq : n.tdiv 10 = c) (c0 : 0 ≤ c) (c1 : c ≤ 1000000) (hr : n.tmod 10 = r) (hc : (5 : Int) < r) (he : c + 1 = e) (hf : -e = f) (hg : -n = g) (ht : GoodG w)
    (O1 : Hid (∀ w, Calls Tryd.prog 6 #[.int .i64 n, .int .i64 1000] w (GiveR w (x1, x2))))
    (K1 : Hid (∀ w, GoodG w → Calls Tryd.prog 9 #[.agg #[.string ⟨x1.toArray⟩, .string ⟨x2.toArray⟩]] w (GiveR w (z1, z2))))
    (O2 : Hid (∀ w, Calls Tryd.prog 6 #[.int .i64 e, .int .i64 100] w (GiveR w (z1, z2))))
    (O3 : Hid (∀ w, Calls Tryd.prog 6 #[.int .i64 g, .int .i64 1000] w (GiveR w (y1, y2))))
    (K2 : Hid (∀ w, GoodG w → Calls Tryd.prog 9 #[.agg #[.string ⟨y1.toArray⟩, .string ⟨y2.toArray⟩]] w (GiveR w (v1, v2))))
    (O4 : Hid (∀ w, Calls Tryd.prog 6 #[.int .i64 f, .int .i64 100] w (GiveR w (v1, v2)))) :
    Calls Tryd.prog 4 #[.int .i64 n] w (GiveB w true) := by
  have HT := Lib.hid ht; clear ht
  go_enter Tryd.func4, Tryd.ntmps4
  go_wp2_with fail
  have BW := Below.refl w.heap.size w
  have b0 : Below w.heap.size w w := Below.refl _ _
  refine (fixed5_any _ (HT.out.below b0)).mono ?_
  rintro e w1 ⟨rfl, b⟩
  have b1 := Below.more b0 b
  clear b
  go_wp2_with fail
  refine (O1.out _).mono ?_
  rintro e w2 ⟨rfl, b⟩
  have b2 := Below.more b1 b
  clear b
  go_wp2_with fail
  refine (K1.out _ (HT.out.below b2)).mono ?_
  rintro e w3 ⟨rfl, b⟩
  have b3 := Below.more b2 b
  clear b
  go_wp2_with fail
  refine (O2.out _).mono ?_
  rintro e w4 ⟨rfl, b⟩
  have b4 := Below.more b3 b
  clear b
  go_wp2_with fail
  refine (O3.out _).mono ?_
  rintro e w5 ⟨rfl, b⟩
  have b5 := Below.more b4 b
  clear b
  go_wp2_with fail
  refine (K2.out _ (HT.out.below b5)).mono ?_
  rintro e w6 ⟨rfl, b⟩
  have b6 := Below.more b5 b
  clear b
  go_wp2_with fail
  refine (O4.out _).mono ?_
  rintro e w7 ⟨rfl, b⟩
  have b7 := Below.more b6 b
  clear b
  go_wp2_with fail
  go_ret
  exact ⟨ret_bool (by first | rfl | simp [*]), Below.more BW b7⟩
set_option maxRecDepth 100000 in
set_option maxHeartbeats 4000000 in
theorem cents5_b (n c e f g : Int) {x1 x2 y1 y2 z1 z2 v1 v2 : List UInt8} (w : World) (h0 : ¬ n < 0) (h1 : ¬ 10000000 < n) (hq : n.tdiv 10 = c) (c0 : 0 ≤ c) (c1 : c ≤ 1000000) (hr : n.tmod 10 = 5) (hc : c.tmod 2 = 1) (he : c + 1 = e) (hf : -e = f) (hg : -n = g) (ht : GoodG w)
    (O1 : Hid (∀ w, Calls Tryd.prog 6 #[.int .i64 n, .int .i64 1000] w (GiveR w (x1, x2))))
    (K1 : Hid (∀ w, GoodG w → Calls Tryd.prog 9 #[.agg #[.string ⟨x1.toArray⟩, .string ⟨x2.toArray⟩]] w (GiveR w (z1, z2))))
    (O2 : Hid (∀ w, Calls Tryd.prog 6 #[.int .i64 e, .int .i64 100] w (GiveR w (z1, z2))))
    (O3 : Hid (∀ w, Calls Tryd.prog 6 #[.int .i64 g, .int .i64 1000] w (GiveR w (y1, y2))))
    (K2 : Hid (∀ w, GoodG w → Calls Tryd.prog 9 #[.agg #[.string ⟨y1.toArray⟩, .string ⟨y2.toArray⟩]] w (GiveR w (v1, v2))))
    (O4 : Hid (∀ w, Calls Tryd.prog 6 #[.int .i64 f, .int .i64 100] w (GiveR w (v1, v2)))) :
    Calls Tryd.prog 4 #[.int .i64 n] w (GiveB w true) := by
  have HT := Lib.hid ht; clear ht
  go_enter Tryd.func4, Tryd.ntmps4
  go_wp2_with fail
  have BW := Below.refl w.heap.size w
  have b0 : Below w.heap.size w w := Below.refl _ _
  refine (fixed5_any _ (HT.out.below b0)).mono ?_
  rintro e w1 ⟨rfl, b⟩
  have b1 := Below.more b0 b
  clear b
  go_wp2_with fail
  refine (O1.out _).mono ?_
  rintro e w2 ⟨rfl, b⟩
  have b2 := Below.more b1 b
  clear b
  go_wp2_with fail
  refine (K1.out _ (HT.out.below b2)).mono ?_
  rintro e w3 ⟨rfl, b⟩
  have b3 := Below.more b2 b
  clear b
  go_wp2_with fail
  refine (O2.out _).mono ?_
  rintro e w4 ⟨rfl, b⟩
  have b4 := Below.more b3 b
  clear b
  go_wp2_with fail
  refine (O3.out _).mono ?_
  rintro e w5 ⟨rfl, b⟩
  have b5 := Below.more b4 b
  clear b
  go_wp2_with fail
  refine (K2.out _ (HT.out.below b5)).mono ?_
  rintro e w6 ⟨rfl, b⟩
  have b6 := Below.more b5 b
  clear b
  go_wp2_with fail
  refine (O4.out _).mono ?_
  rintro e w7 ⟨rfl, b⟩
  have b7 := Below.more b6 b
  clear b
  go_wp2_with fail
  go_ret
  exact ⟨ret_bool (by first | rfl | simp [*]), Below.more BW b7⟩
set_option maxRecDepth 100000 in
set_option maxHeartbeats 4000000 in
theorem cents5_c (n c f g : Int) {x1 x2 y1 y2 z1 z2 v1 v2 : List UInt8} (w : World) (h0 : ¬ n < 0) (h1 : ¬ 10000000 < n) (hq : n.tdiv 10 = c) (c0 : 0 ≤ c) (c1 : c ≤ 1000000) (hr : n.tmod 10 = 5) (hc : c.tmod 2 = 0) (hf : -c = f) (hg : -n = g) (ht : GoodG w)
    (O1 : Hid (∀ w, Calls Tryd.prog 6 #[.int .i64 n, .int .i64 1000] w (GiveR w (x1, x2))))
    (K1 : Hid (∀ w, GoodG w → Calls Tryd.prog 9 #[.agg #[.string ⟨x1.toArray⟩, .string ⟨x2.toArray⟩]] w (GiveR w (z1, z2))))
    (O2 : Hid (∀ w, Calls Tryd.prog 6 #[.int .i64 c, .int .i64 100] w (GiveR w (z1, z2))))
    (O3 : Hid (∀ w, Calls Tryd.prog 6 #[.int .i64 g, .int .i64 1000] w (GiveR w (y1, y2))))
    (K2 : Hid (∀ w, GoodG w → Calls Tryd.prog 9 #[.agg #[.string ⟨y1.toArray⟩, .string ⟨y2.toArray⟩]] w (GiveR w (v1, v2))))
    (O4 : Hid (∀ w, Calls Tryd.prog 6 #[.int .i64 f, .int .i64 100] w (GiveR w (v1, v2)))) :
    Calls Tryd.prog 4 #[.int .i64 n] w (GiveB w true) := by
  have HT := Lib.hid ht; clear ht
  go_enter Tryd.func4, Tryd.ntmps4
  go_wp2_with fail
  have BW := Below.refl w.heap.size w
  have b0 : Below w.heap.size w w := Below.refl _ _
  refine (fixed5_any _ (HT.out.below b0)).mono ?_
  rintro e w1 ⟨rfl, b⟩
  have b1 := Below.more b0 b
  clear b
  go_wp2_with fail
  refine (O1.out _).mono ?_
  rintro e w2 ⟨rfl, b⟩
  have b2 := Below.more b1 b
  clear b
  go_wp2_with fail
  refine (K1.out _ (HT.out.below b2)).mono ?_
  rintro e w3 ⟨rfl, b⟩
  have b3 := Below.more b2 b
  clear b
  go_wp2_with fail
  refine (O2.out _).mono ?_
  rintro e w4 ⟨rfl, b⟩
  have b4 := Below.more b3 b
  clear b
  go_wp2_with fail
  refine (O3.out _).mono ?_
  rintro e w5 ⟨rfl, b⟩
  have b5 := Below.more b4 b
  clear b
  go_wp2_with fail
  refine (K2.out _ (HT.out.below b5)).mono ?_
  rintro e w6 ⟨rfl, b⟩
  have b6 := Below.more b5 b
  clear b
  go_wp2_with fail
  refine (O4.out _).mono ?_
  rintro e w7 ⟨rfl, b⟩
  have b7 := Below.more b6 b
  clear b
  go_wp2_with fail
  go_ret
  exact ⟨ret_bool (by first | rfl | simp [*]), Below.more BW b7⟩
set_option maxRecDepth 100000 in
set_option maxHeartbeats 4000000 in
theorem cents5_d (n c r f g : Int) {x1 x2 y1 y2 z1 z2 v1 v2 : List UInt8} (w : World) (h0 : ¬ n < 0) (h1 : ¬ 10000000 < n) (hq : n.tdiv 10 = c) (c0 : 0 ≤ c) (c1 : c ≤ 1000000) (hr : n.tmod 10 = r) (hc : ¬ (5 : Int) < r) (hc2 : (r == 5) = false) (hc3 : ¬ r = 5) (hf : -c = f) (hg : -n = g) (ht : GoodG w)
    (O1 : Hid (∀ w, Calls Tryd.prog 6 #[.int .i64 n, .int .i64 1000] w (GiveR w (x1, x2))))
    (K1 : Hid (∀ w, GoodG w → Calls Tryd.prog 9 #[.agg #[.string ⟨x1.toArray⟩, .string ⟨x2.toArray⟩]] w (GiveR w (z1, z2))))
    (O2 : Hid (∀ w, Calls Tryd.prog 6 #[.int .i64 c, .int .i64 100] w (GiveR w (z1, z2))))
    (O3 : Hid (∀ w, Calls Tryd.prog 6 #[.int .i64 g, .int .i64 1000] w (GiveR w (y1, y2))))
    (K2 : Hid (∀ w, GoodG w → Calls Tryd.prog 9 #[.agg #[.string ⟨y1.toArray⟩, .string ⟨y2.toArray⟩]] w (GiveR w (v1, v2))))
    (O4 : Hid (∀ w, Calls Tryd.prog 6 #[.int .i64 f, .int .i64 100] w (GiveR w (v1, v2)))) :
    Calls Tryd.prog 4 #[.int .i64 n] w (GiveB w true) := by
  have HT := Lib.hid ht; clear ht
  go_enter Tryd.func4, Tryd.ntmps4
  go_wp2_with fail
  have BW := Below.refl w.heap.size w
  have b0 : Below w.heap.size w w := Below.refl _ _
  refine (fixed5_any _ (HT.out.below b0)).mono ?_
  rintro e w1 ⟨rfl, b⟩
  have b1 := Below.more b0 b
  clear b
  go_wp2_with fail
  refine (O1.out _).mono ?_
  rintro e w2 ⟨rfl, b⟩
  have b2 := Below.more b1 b
  clear b
  go_wp2_with fail
  refine (K1.out _ (HT.out.below b2)).mono ?_
  rintro e w3 ⟨rfl, b⟩
  have b3 := Below.more b2 b
  clear b
  go_wp2_with fail
  refine (O2.out _).mono ?_
  rintro e w4 ⟨rfl, b⟩
  have b4 := Below.more b3 b
  clear b
  go_wp2_with fail
  refine (O3.out _).mono ?_
  rintro e w5 ⟨rfl, b⟩
  have b5 := Below.more b4 b
  clear b
  go_wp2_with fail
  refine (K2.out _ (HT.out.below b5)).mono ?_
  rintro e w6 ⟨rfl, b⟩
  have b6 := Below.more b5 b
  clear b
  go_wp2_with fail
  refine (O4.out _).mono ?_
  rintro e w7 ⟨rfl, b⟩
  have b7 := Below.more b6 b
  clear b
  go_wp2_with fail
  go_ret
  exact ⟨ret_bool (by first | rfl | simp [*]), Below.more BW b7⟩
theorem one_q (a : Int) {b : Int} (h0 : 0 < b) (hb : b ≤ 1000000) (a0 : -9223372036854775808 ≤ a) (a1 : a ≤ 9223372036854775807) (w : World) : Calls Tryd.prog 6 #[.int .i64 a, .int .i64 b] w (GiveR w (rdN (Rat.divInt a b), rdD (Rat.divInt a b))) := by
  have c := rqone_any a b w a0 a1 (by omega) (by omega)
  rw [makeR_ww (by omega)] at c
  exact c
theorem Lq.one {a b : Int} (h0 : 0 < b) (hb : b ≤ 1000000) (a0 : -1000000000000 ≤ a) (a1 : a ≤ 1000000000000) : Lq (Rat.divInt a b) 13 := Lq.divInt (by omega) (Nat.lt_of_le_of_lt (show a.natAbs ≤ 1000000000000 by omega) (by decide)) (Nat.lt_of_le_of_lt (show b.natAbs ≤ 1000000 by omega) (by decide)) (by decide) (by decide)
set_option maxRecDepth 100000 in
set_option maxHeartbeats 4000000 in
theorem cents5_any (n : Int) (w : World) (k0 : -9223372036854775808 ≤ n) (k1 : n ≤ 9223372036854775807) (ht : GoodG w) :
    Calls Tryd.prog 4 #[.int .i64 n] w (GiveB w true) := by
  by_cases h0 : n < 0
  · clear k0 k1
    have HT := Lib.hid ht; clear ht
    go_enter Tryd.func4, Tryd.ntmps4
    go_wp2_with fail
    have BW := Below.refl w.heap.size w
    have b0 : Below w.heap.size w w := Below.refl _ _
    refine (fixed5_any _ (HT.out.below b0)).mono ?_
    rintro e w1 ⟨rfl, b⟩
    have b1 := Below.more b0 b
    clear b
    go_wp2_with fail
    refine (fixed5_any _ (HT.out.below b1)).mono ?_
    rintro e w2 ⟨rfl, b⟩
    have b2 := Below.more b1 b
    clear b
    go_wp2_with fail
    go_ret
    exact ⟨rfl, Below.more BW b2⟩
  · by_cases h1 : 10000000 < n
    · clear k0 k1
      have HT := Lib.hid ht; clear ht
      go_enter Tryd.func4, Tryd.ntmps4
      go_wp2_with fail
      have BW := Below.refl w.heap.size w
      have b0 : Below w.heap.size w w := Below.refl _ _
      refine (fixed5_any _ (HT.out.below b0)).mono ?_
      rintro e w1 ⟨rfl, b⟩
      have b1 := Below.more b0 b
      clear b
      go_wp2_with fail
      refine (fixed5_any _ (HT.out.below b1)).mono ?_
      rintro e w2 ⟨rfl, b⟩
      have b2 := Below.more b1 b
      clear b
      go_wp2_with fail
      go_ret
      exact ⟨rfl, Below.more BW b2⟩
    · have hq : n.tdiv 10 = n / 10 := Int.tdiv_eq_ediv_of_nonneg (by omega)
      have hr : n.tmod 10 = n % 10 := Int.tmod_eq_emod_of_nonneg (by omega)
      obtain ⟨c, hc⟩ : ∃ c, n / 10 = c := ⟨_, rfl⟩
      obtain ⟨r, hr'⟩ : ∃ r, n % 10 = r := ⟨_, rfl⟩
      rw [hc] at hq
      rw [hr'] at hr
      have hn : n = 10 * c + r := by omega
      have r0 : 0 ≤ r := by omega
      have r1 : r < 10 := by omega
      have c0 : 0 ≤ c := by omega
      have c1 : c ≤ 1000000 := by omega
      have ht2 : c.tmod 2 = c % 2 := Int.tmod_eq_emod_of_nonneg c0
      have hz := rnd_cents n
      have htn := whQ_tenth c r r0 r1
      rw [← hn] at htn
      have lx := Lq.one (a := n) (b := 1000) (by decide) (by decide) (by omega) (by omega)
      have ly := Lq.one (a := -n) (b := 1000) (by decide) (by decide) (by omega) (by omega)
      have fin : ∀ e : Int, whQ 2 (Rat.divInt n 10) = e → (0 ≤ e ∧ e ≤ 1000001) →
          (∀ w, GoodG w → Calls Tryd.prog 9 #[.agg #[.string ⟨(rdN (Rat.divInt n 1000)).toArray⟩, .string ⟨(rdD (Rat.divInt n 1000)).toArray⟩]] w (GiveR w (rdN (Rat.divInt e 100), rdD (Rat.divInt e 100)))) ∧ (∀ w, GoodG w → Calls Tryd.prog 9 #[.agg #[.string ⟨(rdN (Rat.divInt (-n) 1000)).toArray⟩, .string ⟨(rdD (Rat.divInt (-n) 1000)).toArray⟩]] w (GiveR w (rdN (Rat.divInt (-e) 100), rdD (Rat.divInt (-e) 100)))) := fun e he hb => by
        rw [he] at hz
        refine ⟨fun w hg => gCents lx (by decide) hz w hg, fun w hg => gCents ly (by decide) ?_ w hg⟩
        rw [minus_divInt, minus_divInt, rnd_neg (.inr rfl), hz]
      have o1 := one_q n (b := 1000) (by decide) (by decide) k0 k1
      have o3 := one_q (-n) (b := 1000) (by decide) (by decide) (by omega) (by omega)
      have o2 := fun (e : Int) (h : 0 ≤ e ∧ e ≤ 1000001) => one_q e (b := 100) (by decide) (by decide) (by omega) (by omega)
      have o4 := fun (e : Int) (h : 0 ≤ e ∧ e ≤ 1000001) => one_q (-e) (b := 100) (by decide) (by decide) (by omega) (by omega)
      by_cases h5 : 5 < r
      · rw [if_pos (.inl h5)] at htn
        have hb : 0 ≤ c + 1 ∧ c + 1 ≤ 1000001 := by omega
        obtain ⟨k1, k2⟩ := fin _ htn hb
        exact cents5_a n c r (c + 1) (-(c + 1)) (-n) w h0 h1 hq c0 c1 hr h5 rfl rfl rfl ht (Lib.hid o1) (Lib.hid k1) (Lib.hid (o2 _ hb)) (Lib.hid o3) (Lib.hid k2) (Lib.hid (o4 _ hb))
      · by_cases h6 : r = 5
        · subst h6
          by_cases h7 : c % 2 = 1
          · rw [if_pos (.inr ⟨rfl, h7⟩)] at htn
            have hb : 0 ≤ c + 1 ∧ c + 1 ≤ 1000001 := by omega
            obtain ⟨k1, k2⟩ := fin _ htn hb
            exact cents5_b n c (c + 1) (-(c + 1)) (-n) w h0 h1 hq c0 c1 hr (ht2.trans h7) rfl rfl rfl ht (Lib.hid o1) (Lib.hid k1) (Lib.hid (o2 _ hb)) (Lib.hid o3) (Lib.hid k2) (Lib.hid (o4 _ hb))
          · rw [if_neg (by omega)] at htn
            have hb : 0 ≤ c ∧ c ≤ 1000001 := by omega
            obtain ⟨k1, k2⟩ := fin _ htn hb
            exact cents5_c n c (-c) (-n) w h0 h1 hq c0 c1 hr (by omega) rfl rfl ht (Lib.hid o1) (Lib.hid k1) (Lib.hid (o2 _ hb)) (Lib.hid o3) (Lib.hid k2) (Lib.hid (o4 _ hb))
        · rw [if_neg (by omega)] at htn
          have hb : 0 ≤ c ∧ c ≤ 1000001 := by omega
          obtain ⟨k1, k2⟩ := fin _ htn hb
          exact cents5_d n c r (-c) (-n) w h0 h1 hq c0 c1 hr h5 (beq_false_of_ne h6) h6 rfl rfl ht (Lib.hid o1) (Lib.hid k1) (Lib.hid (o2 _ hb)) (Lib.hid o3) (Lib.hid k2) (Lib.hid (o4 _ hb))
end Go.Proofs.YtnahepfnejdcgaaDoor
