/- The walk of DecimalParts. -/
import Derived.Test.YtdibnolbichbmaaGreatDoorWBack4
namespace Go.Proofs.YtdibnolbichbmaaGreatDoor
open Go.RowKit
set_option linter.unusedSimpArgs false
set_option linter.unusedVariables false

theorem zc_set {b : Nat} {a c x y : Value} {v : World} (h : Zc b a c v) : Zc b x y ((v.setCell ⟨b, 0, none⟩ x).setCell ⟨b, 1, none⟩ y) := by
  have e0 : (v.setCell ⟨b, 0, none⟩ x).cell? ⟨b, 1, none⟩ = some c := by rw [cell?_setCell_ne _ _ _ _ _ (by omega)]; exact h.c1
  refine ⟨?_, ?_, ?_, ?_, ?_⟩
  · rw [cell?_setCell_ne _ _ _ _ _ (by omega), World.cell?_setCell_same' _ _ _ (by rw [h.c0]; rfl)]
  · rw [World.cell?_setCell_same' _ _ _ (by rw [e0]; rfl)]
  · simpa using h.f0
  · simpa using h.f1
  · simpa using h.lt
set_option maxRecDepth 100000 in
set_option maxHeartbeats 4000000 in
theorem parts4_bad (a b : ByteArray) (zeros : Int) (w : World) (hbad : Hid (∃ j, ∃ hj : j < (a ++ b).size, (a ++ b)[j].toNat < 48 ∨ 57 < (a ++ b)[j].toNat)) (g1 : ¬ (50 : Int) < (a.size : Int)) (g2 : ¬ (50 : Int) < (b.size : Int)) (g3 : ((a.size : Int) == 0) = false) (g4 : ((b.size : Int) == 0) = false) (k3 : ¬ (a.size : Int) = 0) (k4 : ¬ (b.size : Int) = 0) (g5 : ¬ zeros < 0) (g6 : ¬ 50 < zeros) (ht : GoodD w) :
    Calls Tryz.prog 6 #[.string a, .string b, .int .i64 zeros] w (GiveB w true) := by
  have HT := Lib.hid ht; clear ht
  go_enter Tryz.func6, Tryz.ntmps6
  go_wp2_with fail
  have BW := Below.refl w.heap.size w
  have b0 : Below w.heap.size w w := Below.refl _ _
  refine (fixed4_any _ (HT.out.below b0)).mono ?_
  rintro e w1 ⟨rfl, b⟩
  have b1 := Below.more b0 b
  clear b
  go_wp2_with fail
  go_loop [7] (fun i => ∃ k : Nat, k ≤ a.size + b.size ∧ i = .int .i64 k ∧ Hid (∀ j (hj : j < (a ++ b).size), j < k → 48 ≤ (a ++ b)[j].toNat ∧ (a ++ b)[j].toNat ≤ 57)) (fun i => a.size + b.size - (intOf i).toNat)
  case atStart => exact ⟨0, Nat.zero_le _, rfl, fun j _ h => absurd h (Nat.not_lt_zero j)⟩
  case round =>
    obtain ⟨k, hk, rfl, HJ⟩ := hrel
    by_cases hlt : k < a.size + b.size
    · have hlt2 : k < (a ++ b).size := by rw [ByteArray.size_append]; exact hlt
      have hx : ¬ 9223372036854775807 < a.size + b.size := by omega
      by_cases hb : (a ++ b)[k].toNat < 48 ∨ 57 < (a ++ b)[k].toNat
      · have hb' : ((a ++ b)[k].toNat : Int) < 48 ∨ (¬ ((a ++ b)[k].toNat : Int) < 48 ∧ (57 : Int) < ((a ++ b)[k].toNat : Int)) := by omega
        clear hb
        rcases hb' with hb | ⟨hb, hb2⟩
        all_goals
          go_wp2_with fail
          go_ret
          exact ⟨rfl, b1⟩
      · have hb1 : ¬ ((a ++ b)[k].toNat : Int) < 48 := by omega
        have hb2 : ¬ (57 : Int) < ((a ++ b)[k].toNat : Int) := by omega
        have HB := Lib.hid hb; clear hb
        go_wp2_with fail
        go_round
        case rel => exact ⟨k + 1, hlt, by go_num, fun j hj h => by
          by_cases e : j = k
          · subst e; have := HB.out; omega
          · exact HJ.out j hj (by omega)⟩
        case measure => simp [intOf]; omega
    · exfalso
      obtain ⟨j, hj, hb⟩ := hbad.out
      have hj2 : j < k := by rw [ByteArray.size_append] at hj; omega
      have := HJ.out j hj hj2
      omega
set_option maxRecDepth 100000 in
set_option maxHeartbeats 4000000 in
theorem parts4_good (a b : ByteArray) (zeros : Int) (w : World) {x1 x2 y1 y2 z1 z2 n1 n2 q1 q2 : List UInt8} {Z Z2 : ByteArray} (hz1 : Z.size ≤ 50) (hz2 : Z2.size ≤ 50) (hgood : Hid (∀ j (hj : j < (a ++ b).size), 48 ≤ (a ++ b)[j].toNat ∧ (a ++ b)[j].toNat ≤ 57)) (g1 : ¬ (50 : Int) < (a.size : Int)) (g2 : ¬ (50 : Int) < (b.size : Int)) (g3 : ((a.size : Int) == 0) = false) (g4 : ((b.size : Int) == 0) = false) (k3 : ¬ (a.size : Int) = 0) (k4 : ¬ (b.size : Int) = 0) (g5 : ¬ zeros < 0) (g6 : ¬ 50 < zeros) (ht : GoodD w)
    (C1 : Hid (∀ w, GoodD w → Calls Tryz.prog 10 #[.string (a)] w (GiveRE w ((x1, x2), 0))))
    (C2 : Hid (∀ w, GoodD w → Calls Tryz.prog 10 #[.string (b)] w (GiveRE w ((y1, y2), 0))))
    (C3 : Hid (∀ w, GoodD w → Calls Tryz.prog 10 #[.string (a ++ (⟨#[46]⟩ : ByteArray) ++ b)] w (GiveRE w ((z1, z2), 0))))
    (C4 : Hid (∀ w, GoodD w → Calls Tryz.prog 10 #[.string (a ++ (⟨#[46]⟩ : ByteArray) ++ b ++ Z)] w (GiveRE w ((z1, z2), 0))))
    (C5 : Hid (∀ w, GoodD w → Calls Tryz.prog 10 #[.string ((⟨#[45]⟩ : ByteArray) ++ a ++ (⟨#[46]⟩ : ByteArray) ++ b)] w (GiveRE w ((n1, n2), 0))))
    (CZ0 : Hid (∀ w, Calls Tryz.prog 18 #[.int .i64 zeros] w fun e w' => e = .returned (.string Z) ∧ Below w.heap.size w w'))
    (CZ1 : Hid (∀ w, Calls Tryz.prog 18 #[.int .i64 (b.size : Int)] w fun e w' => e = .returned (.string Z2) ∧ Below w.heap.size w w'))
    (CD : Hid (∀ w, Calls Tryz.prog 19 #[.agg #[.string ⟨y1.toArray⟩, .string ⟨y2.toArray⟩], .agg #[.string ((⟨#[49]⟩ : ByteArray) ++ Z2), .string ⟨#[49]⟩]] w (GiveRB w ((q1, q2), true))))
    (CA : Hid (∀ w, Calls Tryz.prog 20 #[.agg #[.string ⟨x1.toArray⟩, .string ⟨x2.toArray⟩], .agg #[.string ⟨q1.toArray⟩, .string ⟨q2.toArray⟩]] w (GiveR w (z1, z2))))
    (CN : Hid (∀ w, Calls Tryz.prog 21 #[.agg #[.string ⟨z1.toArray⟩, .string ⟨z2.toArray⟩]] w (GiveR w (n1, n2)))) :
    Calls Tryz.prog 6 #[.string a, .string b, .int .i64 zeros] w (GiveB w true) := by
  have hx1 : ¬ 9223372036854775807 < a.size + 1 := by omega
  have hx2 : ¬ 9223372036854775807 < a.size + 1 + b.size := by omega
  have hx3 : ¬ 9223372036854775807 < a.size + 1 + b.size + Z.size := by omega
  have hx4 : ¬ 9223372036854775807 < 1 + a.size := by omega
  have hx5 : ¬ 9223372036854775807 < 1 + a.size + 1 := by omega
  have hx6 : ¬ 9223372036854775807 < 1 + a.size + 1 + b.size := by omega
  have hx7 : ¬ 9223372036854775807 < 1 + Z2.size := by omega
  have HT := Lib.hid ht; clear ht
  go_enter Tryz.func6, Tryz.ntmps6
  go_wp2_with fail
  have BW := Below.refl w.heap.size w
  have b0 : Below w.heap.size w w := Below.refl _ _
  refine (fixed4_any _ (HT.out.below b0)).mono ?_
  rintro e w1 ⟨rfl, b⟩
  have b1 := Below.more b0 b
  clear b
  go_wp2_with fail
  go_loop [7] (fun i => ∃ k : Nat, k ≤ a.size + b.size ∧ i = .int .i64 k) (fun i => a.size + b.size - (intOf i).toNat)
  case atStart => exact ⟨0, Nat.zero_le _, rfl⟩
  case round =>
    obtain ⟨k, hk, rfl⟩ := hrel
    by_cases hlt : k < a.size + b.size
    · have hlt2 : k < (a ++ b).size := by rw [ByteArray.size_append]; exact hlt
      have hx : ¬ 9223372036854775807 < a.size + b.size := by omega
      have hb := hgood.out k hlt2
      have hb1 : ¬ ((a ++ b)[k].toNat : Int) < 48 := by omega
      have hb2 : ¬ (57 : Int) < ((a ++ b)[k].toNat : Int) := by omega
      clear hb
      go_wp2_with fail
      go_round
      case rel => exact ⟨k + 1, hlt, by go_num⟩
      case measure => simp [intOf]; omega
    · obtain rfl : k = a.size + b.size := by omega
      clear hk hlt
      go_wp2_with fail
      refine (C1.out _ (HT.out.below b1)).mono ?_
      rintro e w2 ⟨rfl, b⟩
      have b2 := Below.more b1 b
      clear b
      go_wp2_with fail
      obtain ⟨U3, hU, bU, s3, rx0, rx1⟩ := lay b2 (.string ⟨x1.toArray⟩) (.string ⟨x2.toArray⟩) 23
      rw [hU]; clear hU
      clear s3
      replace BW := Below.more BW bU
      replace HT := Lib.hid (HT.out.below bU)
      clear bU
      have b3 := Below.refl U3.heap.size U3
      refine (C2.out _ (HT.out.below b3)).mono ?_
      rintro e w4 ⟨rfl, b⟩
      have b4 := Below.more b3 b
      clear b
      go_wp2_with fail
      obtain ⟨U5, hU, bU, s5, ry0, ry1⟩ := lay b4 (.string ⟨y1.toArray⟩) (.string ⟨y2.toArray⟩) 23
      rw [hU]; clear hU
      clear s5
      replace rx0 := fun v (h : Below U5.heap.size U5 v) => rx0 v (Below.more bU h)
      replace rx1 := fun v (h : Below U5.heap.size U5 v) => rx1 v (Below.more bU h)
      replace BW := Below.more BW bU
      replace HT := Lib.hid (HT.out.below bU)
      clear bU
      have b5 := Below.refl U5.heap.size U5
      refine (C3.out _ (HT.out.below b5)).mono ?_
      rintro e w6 ⟨rfl, b⟩
      have b6 := Below.more b5 b
      clear b
      go_wp2_with fail
      obtain ⟨U7, hU, bU, s7, rz0, rz1⟩ := lay b6 (.string ⟨z1.toArray⟩) (.string ⟨z2.toArray⟩) 23
      rw [hU]; clear hU
      clear s7
      replace rx0 := fun v (h : Below U7.heap.size U7 v) => rx0 v (Below.more bU h)
      replace rx1 := fun v (h : Below U7.heap.size U7 v) => rx1 v (Below.more bU h)
      replace ry0 := fun v (h : Below U7.heap.size U7 v) => ry0 v (Below.more bU h)
      replace ry1 := fun v (h : Below U7.heap.size U7 v) => ry1 v (Below.more bU h)
      replace BW := Below.more BW bU
      replace HT := Lib.hid (HT.out.below bU)
      clear bU
      have b7 := Below.refl U7.heap.size U7
      refine (CZ0.out _).mono ?_
      rintro e w8 ⟨rfl, b⟩
      have b8 := Below.more b7 b
      clear b
      go_wp2_with fail
      refine (C4.out _ (HT.out.below b8)).mono ?_
      rintro e w9 ⟨rfl, b⟩
      have b9 := Below.more b8 b
      clear b
      go_wp2_with fail
      obtain ⟨U10, hU, bU, s10, rm0, rm1⟩ := lay b9 (.string ⟨z1.toArray⟩) (.string ⟨z2.toArray⟩) 23
      rw [hU]; clear hU
      clear s10
      replace rx0 := fun v (h : Below U10.heap.size U10 v) => rx0 v (Below.more bU h)
      replace rx1 := fun v (h : Below U10.heap.size U10 v) => rx1 v (Below.more bU h)
      replace ry0 := fun v (h : Below U10.heap.size U10 v) => ry0 v (Below.more bU h)
      replace ry1 := fun v (h : Below U10.heap.size U10 v) => ry1 v (Below.more bU h)
      replace rz0 := fun v (h : Below U10.heap.size U10 v) => rz0 v (Below.more bU h)
      replace rz1 := fun v (h : Below U10.heap.size U10 v) => rz1 v (Below.more bU h)
      replace BW := Below.more BW bU
      replace HT := Lib.hid (HT.out.below bU)
      clear bU
      have b10 := Below.refl U10.heap.size U10
      refine (C5.out _ (HT.out.below b10)).mono ?_
      rintro e w11 ⟨rfl, b⟩
      have b11 := Below.more b10 b
      clear b
      have ba := fun x => Below.alloc b11 (Below.size b11) x
      go_upto_region 14 with fail
      obtain ⟨U12, hU, bU, s12, rn0, rn1⟩ := lay b11 (.string ⟨n1.toArray⟩) (.string ⟨n2.toArray⟩) 23
      rw [hU]; clear hU
      clear s12
      replace rx0 := fun v (h : Below U12.heap.size U12 v) => rx0 v (Below.more bU h)
      replace rx1 := fun v (h : Below U12.heap.size U12 v) => rx1 v (Below.more bU h)
      replace ry0 := fun v (h : Below U12.heap.size U12 v) => ry0 v (Below.more bU h)
      replace ry1 := fun v (h : Below U12.heap.size U12 v) => ry1 v (Below.more bU h)
      replace rz0 := fun v (h : Below U12.heap.size U12 v) => rz0 v (Below.more bU h)
      replace rz1 := fun v (h : Below U12.heap.size U12 v) => rz1 v (Below.more bU h)
      replace rm0 := fun v (h : Below U12.heap.size U12 v) => rm0 v (Below.more bU h)
      replace rm1 := fun v (h : Below U12.heap.size U12 v) => rm1 v (Below.more bU h)
      replace BW := Below.more BW bU
      replace HT := Lib.hid (HT.out.below bU)
      clear bU
      have b12 := Below.refl U12.heap.size U12
      clear ba
      have hB := Lib.hid (Nat.le_refl U12.heap.size)
      go_cut [19, 20] from 110 to 119 (fun t19 t20 wx => t20 = .bool true ∧ (∃ p, t19 = .pointer (some ⟨p, 0, none⟩) ∧ Zc p (.string ⟨q1.toArray⟩) (.string ⟨q2.toArray⟩) wx) ∧ Below U12.heap.size U12 wx)
      case first =>
        first | (go_region_held3 (fun w' => Below U12.heap.size U12 w')
          (first | (exact b12.drew) | (with_reducible assumption) | (exact Below.alloc (by with_reducible assumption) (Nat.le_trans hB.out (Below.size (by with_reducible assumption))) _) | (exact put2 (by with_reducible assumption) (Nat.le_refl _) _ _) | (exact put2 (by with_reducible assumption) hB.out _ _) | (exact put2 (by with_reducible assumption) (Nat.le_trans hB.out (Below.size (by with_reducible assumption))) _ _))
          (first | (go_at_call 18; (with_reducible refine (held (W := U12) hB.out (CZ1.out _) (by assumption)).mono ?_); rintro e w'' ⟨rfl, hb, hw⟩; (first | (have hz := zc_made0 hb) | (have hz := zc_made hb) | skip); (try have hz := Zc.below (by assumption) hb); (try (have z0 := hz.c0; have z1 := hz.c1; have z2 := hz.f0; have z3 := hz.f1))) | (go_at_call 19; (with_reducible refine (held (W := U12) hB.out (CD.out _) (by assumption)).mono ?_); rintro e w'' ⟨rfl, hb, hw⟩; (first | (have hz := zc_made0 hb) | (have hz := zc_made hb) | skip); (try have hz := Zc.below (by assumption) hb); (try (have z0 := hz.c0; have z1 := hz.c1; have z2 := hz.f0; have z3 := hz.f1))))) | fail
        all_goals (go_wp2_with fail)
        all_goals (go_meet)
        all_goals (exact ⟨rfl, ⟨_, rfl, (by first | exact zc_new _ _ _ _ | exact zc_set (by assumption))⟩, by with_reducible assumption⟩)
      case rest =>
        obtain ⟨rfl, ⟨p, rfl, hz⟩, hc⟩ := hcut
        clear hB
        have rq0 := fun v (h : Below wc.heap.size wc v) => (hz.below h).c0
        have rq1 := fun v (h : Below wc.heap.size wc v) => (hz.below h).c1
        replace rx0 := fun v (h : Below wc.heap.size wc v) => rx0 v (Below.more hc h)
        replace rx1 := fun v (h : Below wc.heap.size wc v) => rx1 v (Below.more hc h)
        replace ry0 := fun v (h : Below wc.heap.size wc v) => ry0 v (Below.more hc h)
        replace ry1 := fun v (h : Below wc.heap.size wc v) => ry1 v (Below.more hc h)
        replace rz0 := fun v (h : Below wc.heap.size wc v) => rz0 v (Below.more hc h)
        replace rz1 := fun v (h : Below wc.heap.size wc v) => rz1 v (Below.more hc h)
        replace rm0 := fun v (h : Below wc.heap.size wc v) => rm0 v (Below.more hc h)
        replace rm1 := fun v (h : Below wc.heap.size wc v) => rm1 v (Below.more hc h)
        replace rn0 := fun v (h : Below wc.heap.size wc v) => rn0 v (Below.more hc h)
        replace rn1 := fun v (h : Below wc.heap.size wc v) => rn1 v (Below.more hc h)
        replace BW := Below.more BW hc
        replace HT := Lib.hid (HT.out.below hc)
        have b20 := Below.refl wc.heap.size wc
        clear hc hz
        go_wp2_with fail
        have hB := Lib.hid (Nat.le_refl wc.heap.size)
        first | (go_region_held3 (fun w' => Below wc.heap.size wc w')
            (first | (exact b20.drew) | (with_reducible assumption) | (exact Below.alloc (by with_reducible assumption) (Nat.le_trans hB.out (Below.size (by with_reducible assumption))) _) | (exact put2 (by with_reducible assumption) (Nat.le_refl _) _ _) | (exact put2 (by with_reducible assumption) hB.out _ _) | (exact put2 (by with_reducible assumption) (Nat.le_trans hB.out (Below.size (by with_reducible assumption))) _ _))
            (first | (go_at_call 20; (with_reducible refine (held (W := wc) hB.out (CA.out _) (by assumption)).mono ?_); rintro e w'' ⟨rfl, hb, hw⟩; (first | (have hz := zc_made0 hb) | (have hz := zc_made hb) | skip); (try have hz := Zc.below (by assumption) hb); (try (have z0 := hz.c0; have z1 := hz.c1; have z2 := hz.f0; have z3 := hz.f1))) | (go_at_call 21; (with_reducible refine (held (W := wc) hB.out (CN.out _) (by assumption)).mono ?_); rintro e w'' ⟨rfl, hb, hw⟩; (first | (have hz := zc_made0 hb) | (have hz := zc_made hb) | skip); (try have hz := Zc.below (by assumption) hb); (try (have z0 := hz.c0; have z1 := hz.c1; have z2 := hz.f0; have z3 := hz.f1))))) | fail
        rename_i hH
        have b21 := hH
        clear hH hB
        go_wp2_with fail
        go_ret
        exact ⟨ret_bool (by first | rfl | simp [*]), Below.more BW b21⟩
theorem digs_bytes {s : ByteArray} (h : s.data.toList.all isDig = true) : ∀ j (hj : j < s.size), 48 ≤ s[j].toNat ∧ s[j].toNat ≤ 57 := fun j hj => by
  have := gb_dig h (j := j) (by rw [size_toList]; exact hj)
  rwa [gb_idx s hj] at this
theorem bad_byte {a b : ByteArray} (ha : 0 < a.size) (hb : 0 < b.size) (h : (digs a.data.toList && digs b.data.toList) = false) : ∃ j, ∃ hj : j < (a ++ b).size, (a ++ b)[j].toNat < 48 ∨ 57 < (a ++ b)[j].toNat := by
  refine Classical.byContradiction fun k => ?_
  have hg : ∀ j (hj : j < (a ++ b).size), 48 ≤ (a ++ b)[j].toNat ∧ (a ++ b)[j].toNat ≤ 57 := fun j hj => by
    have h1 : ¬ ((a ++ b)[j].toNat < 48 ∨ 57 < (a ++ b)[j].toNat) := fun e => k ⟨j, hj, e⟩
    omega
  have h2 := (digs_parts (digs_good (s := a ++ b) (by rw [ByteArray.size_append]; omega) hg)).1
  rw [ba_append, List.all_append, Bool.and_eq_true] at h2
  have na : a.data.toList ≠ [] := fun e => by have := size_toList a; rw [e] at this; have h0 : ([] : List UInt8).length = 0 := rfl; omega
  have nb : b.data.toList ≠ [] := fun e => by have := size_toList b; rw [e] at this; have h0 : ([] : List UInt8).length = 0 := rfl; omega
  rw [digs_of h2.1 na, digs_of h2.2 nb] at h
  cases h
theorem div_ten_rd (n k : Nat) : divR (rd (((n : Nat) : Int) : Rat)) (dig (10 ^ k), [49]) = (rd (Rat.divInt ((n : Nat) : Int) ((10 ^ k : Nat) : Int)), true) := by
  have e : (dig (10 ^ k), [49]) = rd ((((10 ^ k : Nat) : Int)) : Rat) := by
    show _ = (wd _, dig _)
    rw [Rat.num_intCast, Rat.den_intCast, wd_nat, dig_one]
  have h0 : ((((10 ^ k : Nat) : Int)) : Rat) ≠ 0 := fun h => by
    have h1 := congrArg Rat.num h
    rw [Rat.num_intCast] at h1
    have h2 := ten_ne k
    have h3 : (0 : Rat).num = 0 := rfl
    omega
  unfold divR
  rw [e, isR_rd, isR_rd, valR_rd, valR_rd, beq_false_of_ne h0, divInt_cross_div, Rat.num_intCast, Rat.den_intCast, Rat.num_intCast, Rat.den_intCast]
  simp
theorem parS_of {t : ByteArray} {l : List UInt8} {X : Rat} (w : World) (hg : GoodD w) (ht : t.data.toList = l) (hl : l.length ≤ 1000) (hp : parU l = some X) :
    Calls Tryz.prog 10 #[.string t] w (GiveRE w ((rdN X, rdD X), 0)) := by
  have c := parse_any t w (by rw [ext_size ht]; omega) hg
  rw [ht, parS_some hl hp] at c
  exact c
theorem mk_size (n : Nat) {d : Nat} (hd : d ≠ 0) (L : Nat) (h1 : (dig n).length ≤ L) (h2 : (dig d).length ≤ L) : (⟨(rdN (Rat.divInt ((n : Nat) : Int) ((d : Nat) : Int))).toArray⟩ : ByteArray).size ≤ L + 1 ∧ (⟨(rdD (Rat.divInt ((n : Nat) : Int) ((d : Nat) : Int))).toArray⟩ : ByteArray).size ≤ L + 1 := by
  obtain ⟨m1, m2⟩ := mk_le n hd false
  have e : Rat.divInt ((n : Nat) : Int) ((d : Nat) : Int) = sq false (mkRat ((n : Nat) : Int) d) := Rat.divInt_ofNat _ _
  rw [e]
  generalize sq false (mkRat ((n : Nat) : Int) d) = Q at *
  have k1 := dig_len_le m1
  have k2 := dig_len_le m2
  have k3 := wd_length Q.num
  rw [size_of, size_of]
  refine ⟨?_, ?_⟩
  · show (wd Q.num).length ≤ _; omega
  · show (dig Q.den).length ≤ _; omega
theorem len_of {X : Rat} {l : List UInt8} (h : parU l = some X) (hl : l.length ≤ 200) : (⟨(rdN X).toArray⟩ : ByteArray).size ≤ 300 ∧ (⟨(rdD X).toArray⟩ : ByteArray).size ≤ 300 := by
  have := parU_len h
  rw [size_of, size_of]
  omega
set_option maxRecDepth 100000 in
set_option maxHeartbeats 4000000 in
theorem parts4_main (a b : ByteArray) (zeros : Int) (w : World) (ha : digs a.data.toList = true) (hb : digs b.data.toList = true) (g1 : ¬ (50 : Int) < (a.size : Int)) (g2 : ¬ (50 : Int) < (b.size : Int)) (g3 : ((a.size : Int) == 0) = false) (g4 : ((b.size : Int) == 0) = false) (k3 : ¬ (a.size : Int) = 0) (k4 : ¬ (b.size : Int) = 0) (g5 : ¬ zeros < 0) (g6 : ¬ 50 < zeros) (ht : GoodD w) :
    Calls Tryz.prog 6 #[.string a, .string b, .int .i64 zeros] w (GiveB w true) := by
  obtain ⟨j, rfl⟩ : ∃ j : Nat, zeros = (j : Int) := ⟨zeros.toNat, by omega⟩
  have sa : a.data.toList.length = a.size := rfl
  have sb : b.data.toList.length = b.size := rfl
  obtain ⟨da, na⟩ := digs_parts ha
  obtain ⟨db, nb⟩ := digs_parts hb
  have hgood := digs_bytes (s := a ++ b) (by rw [ba_append, List.all_append, da, db]; rfl)
  have zs := zer_size j
  have zs2 := zer_size b.size
  have t3 : (a ++ (⟨#[46]⟩ : ByteArray) ++ b).data.toList = a.data.toList ++ 46 :: b.data.toList := by rw [ba_append, ba_append, List.append_assoc]; rfl
  have hbz : digs (b.data.toList ++ List.replicate j 48) = true := digs_of (by
    rw [List.all_append, db, Bool.true_and, List.all_eq_true]
    intro c hc
    rw [(List.mem_replicate.1 hc).2]; decide) (by simp [nb])
  have t4 : (a ++ (⟨#[46]⟩ : ByteArray) ++ b ++ ⟨(zerS (j : Int)).toArray⟩).data.toList = a.data.toList ++ 46 :: (b.data.toList ++ List.replicate j 48) := by
    rw [ba_append, t3]
    show _ ++ zerS (j : Int) = _
    unfold zerS
    rw [Int.toNat_natCast, List.append_assoc]; rfl
  have t5 : ((⟨#[45]⟩ : ByteArray) ++ a ++ (⟨#[46]⟩ : ByteArray) ++ b).data.toList = 45 :: (a.data.toList ++ 46 :: b.data.toList) := by
    rw [ba_append, ba_append, ba_append, List.append_assoc, List.append_assoc]; rfl
  have p1 := par_digs ha
  have p2 := par_digs hb
  have p3 := par_point ha hb
  have p4 := par_point ha hbz
  rw [point_zeros] at p4
  have p5 := par_minus ha hb
  have l3 : (a.data.toList ++ 46 :: b.data.toList).length ≤ 150 := by rw [List.length_append, List.length_cons]; omega
  have l4 : (a.data.toList ++ 46 :: (b.data.toList ++ List.replicate j 48)).length ≤ 200 := by rw [List.length_append, List.length_cons, List.length_append, List.length_replicate]; omega
  have l5 : (45 :: (a.data.toList ++ 46 :: b.data.toList)).length ≤ 200 := by rw [List.length_cons]; omega
  have c1 := fun w hg => parS_of w hg rfl (by omega) p1
  have c2 := fun w hg => parS_of w hg rfl (by omega) p2
  have c3 := fun w hg => parS_of w hg t3 (by omega) p3
  have c4 := fun w hg => parS_of w hg t4 (by omega) p4
  have c5 := fun w hg => parS_of w hg t5 (by omega) p5
  obtain ⟨x1, x2⟩ := len_of p1 (by omega)
  obtain ⟨y1, y2⟩ := len_of p2 (by omega)
  obtain ⟨z1, z2⟩ := len_of p3 (by omega)
  have hsum := point_sum a.data.toList b.data.toList
  have hsz : b.data.toList.length = b.size := rfl
  rw [hsz] at hsum p3 p5 c3 c4 c5 z1 z2
  have cz0 : ∀ w, Calls Tryz.prog 18 #[.int .i64 (j : Int)] w fun e w' => e = .returned (.string ⟨(zerS (j : Int)).toArray⟩) ∧ Below w.heap.size w w' := fun w => calm (rdzeros_any j w (by omega) (by omega))
  have cz1 : ∀ w, Calls Tryz.prog 18 #[.int .i64 (b.size : Int)] w fun e w' => e = .returned (.string ⟨(zerS (b.size : Int)).toArray⟩) ∧ Below w.heap.size w w' := fun w => calm (rdzeros_any b.size w (by omega) (by omega))
  have zt : ((⟨#[49]⟩ : ByteArray) ++ ⟨(zerS (b.size : Int)).toArray⟩).size ≤ 200 := by
    rw [ext_size (ten_text b.size), dig_ten, List.length_cons, List.length_replicate]; omega
  generalize hX : (((valS a.data.toList : Nat) : Int) : Rat) = X at *
  generalize hZ : mkRat ((valS (a.data.toList ++ b.data.toList) : Nat) : Int) (10 ^ b.size) = Z at *
  have cd : ∀ w, Calls Tryz.prog 19 #[.agg #[.string ⟨(rdN (((valS b.data.toList : Nat) : Int) : Rat)).toArray⟩, .string ⟨(rdD (((valS b.data.toList : Nat) : Int) : Rat)).toArray⟩], .agg #[.string ((⟨#[49]⟩ : ByteArray) ++ ⟨(zerS (b.size : Int)).toArray⟩), .string ⟨#[49]⟩]] w (GiveRB w ((rdN (Rat.divInt ((valS b.data.toList : Nat) : Int) ((10 ^ b.size : Nat) : Int)), rdD (Rat.divInt ((valS b.data.toList : Nat) : Int) ((10 ^ b.size : Nat) : Int))), true)) := fun w => by
    have c := rqdiv_any ⟨(rdN (((valS b.data.toList : Nat) : Int) : Rat)).toArray⟩ ⟨(rdD (((valS b.data.toList : Nat) : Int) : Rat)).toArray⟩ ((⟨#[49]⟩ : ByteArray) ++ ⟨(zerS (b.size : Int)).toArray⟩) ⟨#[49]⟩ w (by omega) (by omega) (by omega) (by decide)
    rw [ten_text b.size] at c
    have e := div_ten_rd (valS b.data.toList) b.size
    have e : divR ((⟨(rdN (((valS b.data.toList : Nat) : Int) : Rat)).toArray⟩ : ByteArray).data.toList, (⟨(rdD (((valS b.data.toList : Nat) : Int) : Rat)).toArray⟩ : ByteArray).data.toList) (dig (10 ^ b.size), (⟨#[49]⟩ : ByteArray).data.toList) = (rd (Rat.divInt ((valS b.data.toList : Nat) : Int) ((10 ^ b.size : Nat) : Int)), true) := e
    rw [e] at c
    exact c
  have qb : (⟨(rdN (Rat.divInt ((valS b.data.toList : Nat) : Int) ((10 ^ b.size : Nat) : Int))).toArray⟩ : ByteArray).size ≤ 300 ∧ (⟨(rdD (Rat.divInt ((valS b.data.toList : Nat) : Int) ((10 ^ b.size : Nat) : Int))).toArray⟩ : ByteArray).size ≤ 300 := by
    have k3 := dig_val_len hb
    exact mk_size (valS b.data.toList) (ten_ne b.size) 299 (by omega) (by rw [dig_ten, List.length_cons, List.length_replicate]; omega)
  generalize Rat.divInt ((valS b.data.toList : Nat) : Int) ((10 ^ b.size : Nat) : Int) = Q at *
  generalize (((valS b.data.toList : Nat) : Int) : Rat) = Y at *
  have ca : ∀ w, Calls Tryz.prog 20 #[.agg #[.string ⟨(rdN X).toArray⟩, .string ⟨(rdD X).toArray⟩], .agg #[.string ⟨(rdN Q).toArray⟩, .string ⟨(rdD Q).toArray⟩]] w (GiveR w (rdN Z, rdD Z)) := fun w => by
    have c := rqadd_any ⟨(rdN X).toArray⟩ ⟨(rdD X).toArray⟩ ⟨(rdN Q).toArray⟩ ⟨(rdD Q).toArray⟩ w (by omega) (by omega) (by omega) (by omega)
    have e : addR ((⟨(rdN X).toArray⟩ : ByteArray).data.toList, (⟨(rdD X).toArray⟩ : ByteArray).data.toList) ((⟨(rdN Q).toArray⟩ : ByteArray).data.toList, (⟨(rdD Q).toArray⟩ : ByteArray).data.toList) = rd Z := by
      show addR (rd X) (rd Q) = _
      unfold addR
      rw [isR_rd, isR_rd, valR_rd, valR_rd, hsum]; rfl
    rw [e] at c
    exact c
  have cn : ∀ w, Calls Tryz.prog 21 #[.agg #[.string ⟨(rdN Z).toArray⟩, .string ⟨(rdD Z).toArray⟩]] w (GiveR w (rdN (-Z), rdD (-Z))) := fun w => by
    have c := rqneg_any ⟨(rdN Z).toArray⟩ ⟨(rdD Z).toArray⟩ w (by omega) (by omega)
    have e : negR ((⟨(rdN Z).toArray⟩ : ByteArray).data.toList, (⟨(rdD Z).toArray⟩ : ByteArray).data.toList) = rd (-Z) := by
      show negR (rd Z) = _
      unfold negR
      rw [isR_rd, valR_rd]; rfl
    rw [e] at c
    exact c
  exact parts4_good a b j w (by omega) (by omega) (Lib.hid hgood) g1 g2 g3 g4 k3 k4 g5 g6 ht (Lib.hid c1) (Lib.hid c2) (Lib.hid c3) (Lib.hid c4) (Lib.hid c5) (Lib.hid cz0) (Lib.hid cz1) (Lib.hid cd) (Lib.hid ca) (Lib.hid cn)
set_option maxRecDepth 100000 in
set_option maxHeartbeats 4000000 in
theorem parts4_any (a b : ByteArray) (zeros : Int) (w : World) (h0 : -9223372036854775808 ≤ zeros) (h1 : zeros ≤ 9223372036854775807) (ht : GoodD w) :
    Calls Tryz.prog 6 #[.string a, .string b, .int .i64 zeros] w (GiveB w true) := by
  by_cases g1 : (50 : Int) < (a.size : Int)
  · clear h0 h1
    have HT := Lib.hid ht; clear ht
    go_enter Tryz.func6, Tryz.ntmps6
    go_wp2_with fail
    have BW := Below.refl w.heap.size w
    have b0 : Below w.heap.size w w := Below.refl _ _
    refine (fixed4_any _ (HT.out.below b0)).mono ?_
    rintro e w1 ⟨rfl, b⟩
    have b1 := Below.more b0 b
    clear b
    go_wp2_with fail
    refine (fixed4_any _ (HT.out.below b1)).mono ?_
    rintro e w2 ⟨rfl, b⟩
    have b2 := Below.more b1 b
    clear b
    go_wp2_with fail
    go_ret
    exact ⟨rfl, Below.more BW b2⟩
  · by_cases g2 : (50 : Int) < (b.size : Int)
    · clear h0 h1
      have HT := Lib.hid ht; clear ht
      go_enter Tryz.func6, Tryz.ntmps6
      go_wp2_with fail
      have BW := Below.refl w.heap.size w
      have b0 : Below w.heap.size w w := Below.refl _ _
      refine (fixed4_any _ (HT.out.below b0)).mono ?_
      rintro e w1 ⟨rfl, b⟩
      have b1 := Below.more b0 b
      clear b
      go_wp2_with fail
      refine (fixed4_any _ (HT.out.below b1)).mono ?_
      rintro e w2 ⟨rfl, b⟩
      have b2 := Below.more b1 b
      clear b
      go_wp2_with fail
      go_ret
      exact ⟨rfl, Below.more BW b2⟩
    · by_cases k3 : (a.size : Int) = 0
      · have g3 : ((a.size : Int) == 0) = true := by rw [k3]; rfl
        clear h0 h1 k3
        have HT := Lib.hid ht; clear ht
        go_enter Tryz.func6, Tryz.ntmps6
        go_wp2_with fail
        have BW := Below.refl w.heap.size w
        have b0 : Below w.heap.size w w := Below.refl _ _
        refine (fixed4_any _ (HT.out.below b0)).mono ?_
        rintro e w1 ⟨rfl, b⟩
        have b1 := Below.more b0 b
        clear b
        go_wp2_with fail
        refine (fixed4_any _ (HT.out.below b1)).mono ?_
        rintro e w2 ⟨rfl, b⟩
        have b2 := Below.more b1 b
        clear b
        go_wp2_with fail
        go_ret
        exact ⟨rfl, Below.more BW b2⟩
      · have g3 : ((a.size : Int) == 0) = false := beq_false_of_ne k3
        by_cases k4 : (b.size : Int) = 0
        · have g4 : ((b.size : Int) == 0) = true := by rw [k4]; rfl
          clear h0 h1 k4
          have HT := Lib.hid ht; clear ht
          go_enter Tryz.func6, Tryz.ntmps6
          go_wp2_with fail
          have BW := Below.refl w.heap.size w
          have b0 : Below w.heap.size w w := Below.refl _ _
          refine (fixed4_any _ (HT.out.below b0)).mono ?_
          rintro e w1 ⟨rfl, b⟩
          have b1 := Below.more b0 b
          clear b
          go_wp2_with fail
          refine (fixed4_any _ (HT.out.below b1)).mono ?_
          rintro e w2 ⟨rfl, b⟩
          have b2 := Below.more b1 b
          clear b
          go_wp2_with fail
          go_ret
          exact ⟨rfl, Below.more BW b2⟩
        · have g4 : ((b.size : Int) == 0) = false := beq_false_of_ne k4
          by_cases g5 : zeros < 0
          · clear h0 h1
            have HT := Lib.hid ht; clear ht
            go_enter Tryz.func6, Tryz.ntmps6
            go_wp2_with fail
            have BW := Below.refl w.heap.size w
            have b0 : Below w.heap.size w w := Below.refl _ _
            refine (fixed4_any _ (HT.out.below b0)).mono ?_
            rintro e w1 ⟨rfl, b⟩
            have b1 := Below.more b0 b
            clear b
            go_wp2_with fail
            refine (fixed4_any _ (HT.out.below b1)).mono ?_
            rintro e w2 ⟨rfl, b⟩
            have b2 := Below.more b1 b
            clear b
            go_wp2_with fail
            go_ret
            exact ⟨rfl, Below.more BW b2⟩
          · by_cases g6 : 50 < zeros
            · clear h0 h1
              have HT := Lib.hid ht; clear ht
              go_enter Tryz.func6, Tryz.ntmps6
              go_wp2_with fail
              have BW := Below.refl w.heap.size w
              have b0 : Below w.heap.size w w := Below.refl _ _
              refine (fixed4_any _ (HT.out.below b0)).mono ?_
              rintro e w1 ⟨rfl, b⟩
              have b1 := Below.more b0 b
              clear b
              go_wp2_with fail
              refine (fixed4_any _ (HT.out.below b1)).mono ?_
              rintro e w2 ⟨rfl, b⟩
              have b2 := Below.more b1 b
              clear b
              go_wp2_with fail
              go_ret
              exact ⟨rfl, Below.more BW b2⟩
            · cases h : digs a.data.toList && digs b.data.toList with
              | false => exact parts4_bad a b zeros w (Lib.hid (bad_byte (by omega) (by omega) h)) g1 g2 g3 g4 k3 k4 g5 g6 ht
              | true =>
                rw [Bool.and_eq_true] at h
                exact parts4_main a b zeros w h.1 h.2 g1 g2 g3 g4 k3 k4 g5 g6 ht
end Go.Proofs.YtdibnolbichbmaaGreatDoor
