/- The walk of DecimalPlaces. -/
import Derived.Test.YtdibnolbichbmaaGreatDoorFixD
namespace Go.Proofs.YtdibnolbichbmaaGreatDoor
open Go.RowKit
set_option linter.unusedSimpArgs false
set_option linter.unusedVariables false

theorem gd_parts {p : ByteArray × ByteArray} (h : gdQ p = true) : p.1.size ≤ 100 ∧ p.2.size ≤ 100 ∧ isR (p.1.data.toList, p.2.data.toList) = true := by
  unfold gdQ shQ at h
  rw [Bool.and_eq_true, Bool.and_eq_true, decide_eq_true_eq, decide_eq_true_eq] at h
  exact ⟨h.1.1, h.1.2, h.2⟩
set_option maxRecDepth 100000 in
set_option maxHeartbeats 4000000 in
theorem places4_none (X : Rat) (k : Int) (w : World) {y1 y2 : List UInt8} {z : ByteArray} (e1 : (y2 == [49]) = false) (e2 : ¬ y2 = [49]) (zz : z.size ≤ 200) (k0 : ¬ k < 0) (k1 : ¬ 100 < k) (zn : ¬ (30 : Int) < ((rdN X).length : Int)) (zd : ¬ (30 : Int) < ((rdD X).length : Int)) (ht : GoodD w)
    (CG : Hid (∀ w, Calls Tryz.prog 16 #[.slice (some ⟨w.heap.size, 0, none⟩) 1 1] (w.alloc (.cells #[.string ⟨(rdN X).toArray⟩, .string ⟨(rdD X).toArray⟩] 23)) fun e w' => e = .returned (.bool true) ∧ Below w.heap.size w w'))
    (CQ : Hid (∀ w, GoodD w → Calls Tryz.prog 12 #[.agg #[.string ⟨(rdN X).toArray⟩, .string ⟨(rdD X).toArray⟩]] w (GiveIB w ((0, false)))))
    (CZ : Hid (∀ w, Calls Tryz.prog 18 #[.int .i64 k] w fun e w' => e = .returned (.string z) ∧ Below w.heap.size w w'))
    (CX : Hid (∀ w, Calls Tryz.prog 17 #[.agg #[.string ⟨(rdN X).toArray⟩, .string ⟨(rdD X).toArray⟩], .agg #[.string ((⟨#[49]⟩ : ByteArray) ++ z), .string ⟨#[49]⟩]] w (GiveR w (y1, y2)))) :
    Calls Tryz.prog 5 #[.agg #[.string ⟨(rdN X).toArray⟩, .string ⟨(rdD X).toArray⟩], .int .i64 k] w (GiveB w true) := by
  have hx1 : ¬ 9223372036854775807 < 1 + z.size := by omega
  have HT := Lib.hid ht; clear ht
  go_enter Tryz.func5, Tryz.ntmps5
  go_wp2_with fail
  have BW := Below.refl w.heap.size w
  have b0 : Below w.heap.size w w := Below.refl _ _
  obtain ⟨U1, hU, bU, s1, rx0, rx1⟩ := lay b0 (.string ⟨(rdN X).toArray⟩) (.string ⟨(rdD X).toArray⟩) 23
  rw [hU]; clear hU
  clear s1
  replace BW := Below.more BW bU
  replace HT := Lib.hid (HT.out.below bU)
  clear bU
  have b1 := Below.refl U1.heap.size U1
  go_wp2_with fail
  refine (fixed4_any _ (HT.out.below b1)).mono ?_
  rintro e w2 ⟨rfl, b⟩
  have b2 := Below.more b1 b
  clear b
  go_wp2_with fail
  refine (CG.out _).mono ?_
  rintro e w3 ⟨rfl, b⟩
  have b3 := Below.more b2 b
  clear b
  go_wp2_with fail
  refine (CQ.out _ (HT.out.below b3)).mono ?_
  rintro e w4 ⟨rfl, b⟩
  have b4 := Below.more b3 b
  clear b
  go_wp2_with fail
  have hB := Lib.hid (Nat.le_refl U1.heap.size)
  first | (go_region_held3 (fun w' => Below U1.heap.size U1 w')
      (first | (exact b4.drew) | (with_reducible assumption) | (exact Below.alloc (by with_reducible assumption) (Nat.le_trans hB.out (Below.size (by with_reducible assumption))) _) | (exact put2 (by with_reducible assumption) (Nat.le_refl _) _ _) | (exact put2 (by with_reducible assumption) hB.out _ _) | (exact put2 (by with_reducible assumption) (Nat.le_trans hB.out (Below.size (by with_reducible assumption))) _ _))
      (first | (go_at_call 18; (with_reducible refine (held (W := U1) hB.out (CZ.out _) (by assumption)).mono ?_); rintro e w'' ⟨rfl, hb, hw⟩; (first | (have hz := zc_made0 hb) | (have hz := zc_made hb) | skip); (try have hz := Zc.below (by assumption) hb); (try (have z0 := hz.c0; have z1 := hz.c1; have z2 := hz.f0; have z3 := hz.f1))) | (go_at_call 17; (with_reducible refine (held (W := U1) hB.out (CX.out _) (by assumption)).mono ?_); rintro e w'' ⟨rfl, hb, hw⟩; (first | (have hz := zc_made0 hb) | (have hz := zc_made hb) | skip); (try have hz := Zc.below (by assumption) hb); (try (have z0 := hz.c0; have z1 := hz.c1; have z2 := hz.f0; have z3 := hz.f1))))) | fail
  all_goals (go_wp2_with fail)
  all_goals (go_ret)
  all_goals (exact ⟨ret_bool (by first | rfl | (simp; omega)), Below.more BW (by with_reducible assumption)⟩)
set_option maxRecDepth 100000 in
set_option maxHeartbeats 4000000 in
theorem places4_yes (X : Rat) (k : Int) (w : World) {y1 y2 : List UInt8} {z : ByteArray} {m : Int} (hm : m ≤ k) (e1 : (y2 == [49]) = true) (e2 : y2 = [49]) (zz : z.size ≤ 200) (k0 : ¬ k < 0) (k1 : ¬ 100 < k) (zn : ¬ (30 : Int) < ((rdN X).length : Int)) (zd : ¬ (30 : Int) < ((rdD X).length : Int)) (ht : GoodD w)
    (CG : Hid (∀ w, Calls Tryz.prog 16 #[.slice (some ⟨w.heap.size, 0, none⟩) 1 1] (w.alloc (.cells #[.string ⟨(rdN X).toArray⟩, .string ⟨(rdD X).toArray⟩] 23)) fun e w' => e = .returned (.bool true) ∧ Below w.heap.size w w'))
    (CQ : Hid (∀ w, GoodD w → Calls Tryz.prog 12 #[.agg #[.string ⟨(rdN X).toArray⟩, .string ⟨(rdD X).toArray⟩]] w (GiveIB w ((m, true)))))
    (CZ : Hid (∀ w, Calls Tryz.prog 18 #[.int .i64 k] w fun e w' => e = .returned (.string z) ∧ Below w.heap.size w w'))
    (CX : Hid (∀ w, Calls Tryz.prog 17 #[.agg #[.string ⟨(rdN X).toArray⟩, .string ⟨(rdD X).toArray⟩], .agg #[.string ((⟨#[49]⟩ : ByteArray) ++ z), .string ⟨#[49]⟩]] w (GiveR w (y1, y2)))) :
    Calls Tryz.prog 5 #[.agg #[.string ⟨(rdN X).toArray⟩, .string ⟨(rdD X).toArray⟩], .int .i64 k] w (GiveB w true) := by
  have hx1 : ¬ 9223372036854775807 < 1 + z.size := by omega
  have HT := Lib.hid ht; clear ht
  go_enter Tryz.func5, Tryz.ntmps5
  go_wp2_with fail
  have BW := Below.refl w.heap.size w
  have b0 : Below w.heap.size w w := Below.refl _ _
  obtain ⟨U1, hU, bU, s1, rx0, rx1⟩ := lay b0 (.string ⟨(rdN X).toArray⟩) (.string ⟨(rdD X).toArray⟩) 23
  rw [hU]; clear hU
  clear s1
  replace BW := Below.more BW bU
  replace HT := Lib.hid (HT.out.below bU)
  clear bU
  have b1 := Below.refl U1.heap.size U1
  go_wp2_with fail
  refine (fixed4_any _ (HT.out.below b1)).mono ?_
  rintro e w2 ⟨rfl, b⟩
  have b2 := Below.more b1 b
  clear b
  go_wp2_with fail
  refine (CG.out _).mono ?_
  rintro e w3 ⟨rfl, b⟩
  have b3 := Below.more b2 b
  clear b
  go_wp2_with fail
  refine (CQ.out _ (HT.out.below b3)).mono ?_
  rintro e w4 ⟨rfl, b⟩
  have b4 := Below.more b3 b
  clear b
  go_wp2_with fail
  have hB := Lib.hid (Nat.le_refl U1.heap.size)
  first | (go_region_held3 (fun w' => Below U1.heap.size U1 w')
      (first | (exact b4.drew) | (with_reducible assumption) | (exact Below.alloc (by with_reducible assumption) (Nat.le_trans hB.out (Below.size (by with_reducible assumption))) _) | (exact put2 (by with_reducible assumption) (Nat.le_refl _) _ _) | (exact put2 (by with_reducible assumption) hB.out _ _) | (exact put2 (by with_reducible assumption) (Nat.le_trans hB.out (Below.size (by with_reducible assumption))) _ _))
      (first | (go_at_call 18; (with_reducible refine (held (W := U1) hB.out (CZ.out _) (by assumption)).mono ?_); rintro e w'' ⟨rfl, hb, hw⟩; (first | (have hz := zc_made0 hb) | (have hz := zc_made hb) | skip); (try have hz := Zc.below (by assumption) hb); (try (have z0 := hz.c0; have z1 := hz.c1; have z2 := hz.f0; have z3 := hz.f1))) | (go_at_call 17; (with_reducible refine (held (W := U1) hB.out (CX.out _) (by assumption)).mono ?_); rintro e w'' ⟨rfl, hb, hw⟩; (first | (have hz := zc_made0 hb) | (have hz := zc_made hb) | skip); (try have hz := Zc.below (by assumption) hb); (try (have z0 := hz.c0; have z1 := hz.c1; have z2 := hz.f0; have z3 := hz.f1))))) | fail
  all_goals (go_wp2_with fail)
  all_goals (go_ret)
  all_goals (exact ⟨ret_bool (by first | rfl | (simp; omega)), Below.more BW (by with_reducible assumption)⟩)
set_option maxRecDepth 100000 in
set_option maxHeartbeats 4000000 in
theorem places4_no (X : Rat) (k : Int) (w : World) {y1 y2 : List UInt8} {z : ByteArray} {m : Int} (hm : ¬ m ≤ k) (e1 : (y2 == [49]) = false) (e2 : ¬ y2 = [49]) (zz : z.size ≤ 200) (k0 : ¬ k < 0) (k1 : ¬ 100 < k) (zn : ¬ (30 : Int) < ((rdN X).length : Int)) (zd : ¬ (30 : Int) < ((rdD X).length : Int)) (ht : GoodD w)
    (CG : Hid (∀ w, Calls Tryz.prog 16 #[.slice (some ⟨w.heap.size, 0, none⟩) 1 1] (w.alloc (.cells #[.string ⟨(rdN X).toArray⟩, .string ⟨(rdD X).toArray⟩] 23)) fun e w' => e = .returned (.bool true) ∧ Below w.heap.size w w'))
    (CQ : Hid (∀ w, GoodD w → Calls Tryz.prog 12 #[.agg #[.string ⟨(rdN X).toArray⟩, .string ⟨(rdD X).toArray⟩]] w (GiveIB w ((m, true)))))
    (CZ : Hid (∀ w, Calls Tryz.prog 18 #[.int .i64 k] w fun e w' => e = .returned (.string z) ∧ Below w.heap.size w w'))
    (CX : Hid (∀ w, Calls Tryz.prog 17 #[.agg #[.string ⟨(rdN X).toArray⟩, .string ⟨(rdD X).toArray⟩], .agg #[.string ((⟨#[49]⟩ : ByteArray) ++ z), .string ⟨#[49]⟩]] w (GiveR w (y1, y2)))) :
    Calls Tryz.prog 5 #[.agg #[.string ⟨(rdN X).toArray⟩, .string ⟨(rdD X).toArray⟩], .int .i64 k] w (GiveB w true) := by
  have hx1 : ¬ 9223372036854775807 < 1 + z.size := by omega
  have HT := Lib.hid ht; clear ht
  go_enter Tryz.func5, Tryz.ntmps5
  go_wp2_with fail
  have BW := Below.refl w.heap.size w
  have b0 : Below w.heap.size w w := Below.refl _ _
  obtain ⟨U1, hU, bU, s1, rx0, rx1⟩ := lay b0 (.string ⟨(rdN X).toArray⟩) (.string ⟨(rdD X).toArray⟩) 23
  rw [hU]; clear hU
  clear s1
  replace BW := Below.more BW bU
  replace HT := Lib.hid (HT.out.below bU)
  clear bU
  have b1 := Below.refl U1.heap.size U1
  go_wp2_with fail
  refine (fixed4_any _ (HT.out.below b1)).mono ?_
  rintro e w2 ⟨rfl, b⟩
  have b2 := Below.more b1 b
  clear b
  go_wp2_with fail
  refine (CG.out _).mono ?_
  rintro e w3 ⟨rfl, b⟩
  have b3 := Below.more b2 b
  clear b
  go_wp2_with fail
  refine (CQ.out _ (HT.out.below b3)).mono ?_
  rintro e w4 ⟨rfl, b⟩
  have b4 := Below.more b3 b
  clear b
  go_wp2_with fail
  have hB := Lib.hid (Nat.le_refl U1.heap.size)
  first | (go_region_held3 (fun w' => Below U1.heap.size U1 w')
      (first | (exact b4.drew) | (with_reducible assumption) | (exact Below.alloc (by with_reducible assumption) (Nat.le_trans hB.out (Below.size (by with_reducible assumption))) _) | (exact put2 (by with_reducible assumption) (Nat.le_refl _) _ _) | (exact put2 (by with_reducible assumption) hB.out _ _) | (exact put2 (by with_reducible assumption) (Nat.le_trans hB.out (Below.size (by with_reducible assumption))) _ _))
      (first | (go_at_call 18; (with_reducible refine (held (W := U1) hB.out (CZ.out _) (by assumption)).mono ?_); rintro e w'' ⟨rfl, hb, hw⟩; (first | (have hz := zc_made0 hb) | (have hz := zc_made hb) | skip); (try have hz := Zc.below (by assumption) hb); (try (have z0 := hz.c0; have z1 := hz.c1; have z2 := hz.f0; have z3 := hz.f1))) | (go_at_call 17; (with_reducible refine (held (W := U1) hB.out (CX.out _) (by assumption)).mono ?_); rintro e w'' ⟨rfl, hb, hw⟩; (first | (have hz := zc_made0 hb) | (have hz := zc_made hb) | skip); (try have hz := Zc.below (by assumption) hb); (try (have z0 := hz.c0; have z1 := hz.c1; have z2 := hz.f0; have z3 := hz.f1))))) | fail
  all_goals (go_wp2_with fail)
  all_goals (go_ret)
  all_goals (exact ⟨ret_bool (by first | rfl | (simp; omega)), Below.more BW (by with_reducible assumption)⟩)
theorem mul_ten_rd (X : Rat) (k : Nat) : mulR (rd X) (dig (10 ^ k), [49]) = rd (X * (((10 ^ k : Nat) : Int) : Rat)) := by
  have e : (dig (10 ^ k), [49]) = rd ((((10 ^ k : Nat) : Int)) : Rat) := by
    show _ = (wd _, dig _)
    rw [Rat.num_intCast, Rat.den_intCast, wd_nat, dig_one]
  unfold mulR
  rw [e, isR_rd, isR_rd, valR_rd, valR_rd]; rfl
set_option maxRecDepth 100000 in
set_option maxHeartbeats 4000000 in
theorem places4_main (X : Rat) (k : Int) (w : World) (k0 : ¬ k < 0) (k1 : ¬ 100 < k) (zn : (rdN X).length ≤ 30) (zd : (rdD X).length ≤ 30) (hg : gdQ (⟨(rdN X).toArray⟩, ⟨(rdD X).toArray⟩) = true) (ht : GoodD w) :
    Calls Tryz.prog 5 #[.agg #[.string ⟨(rdN X).toArray⟩, .string ⟨(rdD X).toArray⟩], .int .i64 k] w (GiveB w true) := by
  obtain ⟨j, rfl⟩ : ∃ j : Nat, k = (j : Int) := ⟨k.toNat, by omega⟩
  have cg : ∀ w, Calls Tryz.prog 16 #[.slice (some ⟨w.heap.size, 0, none⟩) 1 1] (w.alloc (.cells #[.string ⟨(rdN X).toArray⟩, .string ⟨(rdD X).toArray⟩] 23)) fun e w' => e = .returned (.bool true) ∧ Below w.heap.size w w' := fun w => by
    have c := good1 w (⟨(rdN X).toArray⟩, ⟨(rdD X).toArray⟩)
    rw [hg] at c
    exact c
  have cq := fun w hg => places_any ⟨(rdN X).toArray⟩ ⟨(rdD X).toArray⟩ w (by rw [size_of]; omega) (by rw [size_of]; omega) hg
  have ep : plS ((⟨(rdN X).toArray⟩ : ByteArray).data.toList, (⟨(rdD X).toArray⟩ : ByteArray).data.toList) = plR (plc X.den) := by
    show plS (rd X) = _
    rw [pl_den (isR_rd _), valR_rd]
  rw [ep] at cq
  have cz : ∀ w, Calls Tryz.prog 18 #[.int .i64 (j : Int)] w fun e w' => e = .returned (.string ⟨(zerS (j : Int)).toArray⟩) ∧ Below w.heap.size w w' := fun w => calm (rdzeros_any j w (by omega) (by omega))
  have zs := zer_size j
  have zt : ((⟨#[49]⟩ : ByteArray) ++ ⟨(zerS (j : Int)).toArray⟩).size ≤ 200 := by
    rw [ext_size (ten_text j), dig_ten, List.length_cons, List.length_replicate]; omega
  have cx := fun w => rqmul_any ⟨(rdN X).toArray⟩ ⟨(rdD X).toArray⟩ ((⟨#[49]⟩ : ByteArray) ++ ⟨(zerS (j : Int)).toArray⟩) ⟨#[49]⟩ w (by rw [size_of]; omega) (by rw [size_of]; omega) (by omega) (by decide)
  have em : mulR ((⟨(rdN X).toArray⟩ : ByteArray).data.toList, (⟨(rdD X).toArray⟩ : ByteArray).data.toList) (((⟨#[49]⟩ : ByteArray) ++ ⟨(zerS (j : Int)).toArray⟩).data.toList, (⟨#[49]⟩ : ByteArray).data.toList) = rd (X * (((10 ^ j : Nat) : Int) : Rat)) := by
    rw [ten_text j]
    exact mul_ten_rd X j
  rw [em] at cx
  have hp := places_le X j
  have e49 := dig49 (X * (((10 ^ j : Nat) : Int) : Rat)).den
  have zz : (⟨(zerS (j : Int)).toArray⟩ : ByteArray).size ≤ 200 := by omega
  have cx : ∀ w, Calls Tryz.prog 17 #[.agg #[.string ⟨(rdN X).toArray⟩, .string ⟨(rdD X).toArray⟩], .agg #[.string ((⟨#[49]⟩ : ByteArray) ++ ⟨(zerS (j : Int)).toArray⟩), .string ⟨#[49]⟩]] w (GiveR w (rdN (X * (((10 ^ j : Nat) : Int) : Rat)), rdD (X * (((10 ^ j : Nat) : Int) : Rat)))) := cx
  by_cases h1 : (X * (((10 ^ j : Nat) : Int) : Rat)).den = 1
  · obtain ⟨m, hm, hmj⟩ := hp.1 h1
    rw [hm] at cq
    rw [decide_eq_true h1] at e49
    exact places4_yes X j w (m := (m : Int)) (by omega) e49 (eq_of_beq e49) zz k0 k1 (by omega) (by omega) ht (Lib.hid cg) (Lib.hid cq) (Lib.hid cz) (Lib.hid cx)
  · rw [decide_eq_false h1] at e49
    have e2 : ¬ rdD (X * (((10 ^ j : Nat) : Int) : Rat)) = [49] := fun e => by
      have e' : dig (X * (((10 ^ j : Nat) : Int) : Rat)).den = [49] := e
      rw [e'] at e49; cases e49
    cases hq : plc X.den with
    | none =>
      rw [hq] at cq
      exact places4_none X j w e49 e2 zz k0 k1 (by omega) (by omega) ht (Lib.hid cg) (Lib.hid cq) (Lib.hid cz) (Lib.hid cx)
    | some m =>
      rw [hq] at cq
      have hm : ¬ (m : Int) ≤ (j : Int) := fun h => h1 (hp.2 ⟨m, hq, by omega⟩)
      exact places4_no X j w (m := (m : Int)) hm e49 e2 zz k0 k1 (by omega) (by omega) ht (Lib.hid cg) (Lib.hid cq) (Lib.hid cz) (Lib.hid cx)
set_option maxRecDepth 100000 in
set_option maxHeartbeats 4000000 in
theorem places4_any (n d : ByteArray) (k : Int) (w : World) (k0 : -9223372036854775808 ≤ k) (k1 : k ≤ 9223372036854775807) (ht : GoodD w) :
    Calls Tryz.prog 5 #[.agg #[.string n, .string d], .int .i64 k] w (GiveB w true) := by
  by_cases h1 : (30 : Int) < (n.size : Int)
  · clear k0 k1
    have HT := Lib.hid ht; clear ht
    go_enter Tryz.func5, Tryz.ntmps5
    go_wp2_with fail
    have BW := Below.refl w.heap.size w
    have b0 : Below w.heap.size w w := Below.refl _ _
    obtain ⟨U1, hU, bU, s1, rx0, rx1⟩ := lay b0 (.string n) (.string d) 23
    rw [hU]; clear hU
    clear s1
    replace BW := Below.more BW bU
    replace HT := Lib.hid (HT.out.below bU)
    clear bU
    have b1 := Below.refl U1.heap.size U1
    go_wp2_with fail
    refine (fixed4_any _ (HT.out.below b1)).mono ?_
    rintro e w2 ⟨rfl, b⟩
    have b2 := Below.more b1 b
    clear b
    go_wp2_with fail
    refine (fixed4_any _ (HT.out.below b2)).mono ?_
    rintro e w3 ⟨rfl, b⟩
    have b3 := Below.more b2 b
    clear b
    go_wp2_with fail
    go_ret
    exact ⟨rfl, Below.more BW b3⟩
  · by_cases h2 : (30 : Int) < (d.size : Int)
    · clear k0 k1
      have HT := Lib.hid ht; clear ht
      go_enter Tryz.func5, Tryz.ntmps5
      go_wp2_with fail
      have BW := Below.refl w.heap.size w
      have b0 : Below w.heap.size w w := Below.refl _ _
      obtain ⟨U1, hU, bU, s1, rx0, rx1⟩ := lay b0 (.string n) (.string d) 23
      rw [hU]; clear hU
      clear s1
      replace BW := Below.more BW bU
      replace HT := Lib.hid (HT.out.below bU)
      clear bU
      have b1 := Below.refl U1.heap.size U1
      go_wp2_with fail
      refine (fixed4_any _ (HT.out.below b1)).mono ?_
      rintro e w2 ⟨rfl, b⟩
      have b2 := Below.more b1 b
      clear b
      go_wp2_with fail
      refine (fixed4_any _ (HT.out.below b2)).mono ?_
      rintro e w3 ⟨rfl, b⟩
      have b3 := Below.more b2 b
      clear b
      go_wp2_with fail
      go_ret
      exact ⟨rfl, Below.more BW b3⟩
    · have cg : ∀ w, Calls Tryz.prog 16 #[.slice (some ⟨w.heap.size, 0, none⟩) 1 1] (w.alloc (.cells #[.string n, .string d] 23)) fun e w' => e = .returned (.bool (gdQ (n, d))) ∧ Below w.heap.size w w' := fun w => good1 w (n, d)
      cases hg : gdQ (n, d) with
      | false =>
        rw [hg] at cg
        clear hg k0 k1
        have CG := Lib.hid cg
        clear cg
        have HT := Lib.hid ht; clear ht
        go_enter Tryz.func5, Tryz.ntmps5
        go_wp2_with fail
        have BW := Below.refl w.heap.size w
        have b0 : Below w.heap.size w w := Below.refl _ _
        obtain ⟨U1, hU, bU, s1, rx0, rx1⟩ := lay b0 (.string n) (.string d) 23
        rw [hU]; clear hU
        clear s1
        replace BW := Below.more BW bU
        replace HT := Lib.hid (HT.out.below bU)
        clear bU
        have b1 := Below.refl U1.heap.size U1
        go_wp2_with fail
        refine (fixed4_any _ (HT.out.below b1)).mono ?_
        rintro e w2 ⟨rfl, b⟩
        have b2 := Below.more b1 b
        clear b
        go_wp2_with fail
        refine (CG.out _).mono ?_
        rintro e w3 ⟨rfl, b⟩
        have b3 := Below.more b2 b
        clear b
        go_wp2_with fail
        refine (fixed4_any _ (HT.out.below b3)).mono ?_
        rintro e w4 ⟨rfl, b⟩
        have b4 := Below.more b3 b
        clear b
        go_wp2_with fail
        go_ret
        exact ⟨rfl, Below.more BW b4⟩
      | true =>
        by_cases h3 : k < 0
        · rw [hg] at cg
          clear hg k0 k1
          have CG := Lib.hid cg
          clear cg
          have HT := Lib.hid ht; clear ht
          go_enter Tryz.func5, Tryz.ntmps5
          go_wp2_with fail
          have BW := Below.refl w.heap.size w
          have b0 : Below w.heap.size w w := Below.refl _ _
          obtain ⟨U1, hU, bU, s1, rx0, rx1⟩ := lay b0 (.string n) (.string d) 23
          rw [hU]; clear hU
          clear s1
          replace BW := Below.more BW bU
          replace HT := Lib.hid (HT.out.below bU)
          clear bU
          have b1 := Below.refl U1.heap.size U1
          go_wp2_with fail
          refine (fixed4_any _ (HT.out.below b1)).mono ?_
          rintro e w2 ⟨rfl, b⟩
          have b2 := Below.more b1 b
          clear b
          go_wp2_with fail
          refine (CG.out _).mono ?_
          rintro e w3 ⟨rfl, b⟩
          have b3 := Below.more b2 b
          clear b
          go_wp2_with fail
          refine (fixed4_any _ (HT.out.below b3)).mono ?_
          rintro e w4 ⟨rfl, b⟩
          have b4 := Below.more b3 b
          clear b
          go_wp2_with fail
          go_ret
          exact ⟨rfl, Below.more BW b4⟩
        · by_cases h4 : (100 : Int) < k
          · rw [hg] at cg
            clear hg k0 k1
            have CG := Lib.hid cg
            clear cg
            have HT := Lib.hid ht; clear ht
            go_enter Tryz.func5, Tryz.ntmps5
            go_wp2_with fail
            have BW := Below.refl w.heap.size w
            have b0 : Below w.heap.size w w := Below.refl _ _
            obtain ⟨U1, hU, bU, s1, rx0, rx1⟩ := lay b0 (.string n) (.string d) 23
            rw [hU]; clear hU
            clear s1
            replace BW := Below.more BW bU
            replace HT := Lib.hid (HT.out.below bU)
            clear bU
            have b1 := Below.refl U1.heap.size U1
            go_wp2_with fail
            refine (fixed4_any _ (HT.out.below b1)).mono ?_
            rintro e w2 ⟨rfl, b⟩
            have b2 := Below.more b1 b
            clear b
            go_wp2_with fail
            refine (CG.out _).mono ?_
            rintro e w3 ⟨rfl, b⟩
            have b3 := Below.more b2 b
            clear b
            go_wp2_with fail
            refine (fixed4_any _ (HT.out.below b3)).mono ?_
            rintro e w4 ⟨rfl, b⟩
            have b4 := Below.more b3 b
            clear b
            go_wp2_with fail
            go_ret
            exact ⟨rfl, Below.more BW b4⟩
          · obtain ⟨_, _, g3⟩ := gd_parts hg
            obtain ⟨e1, e2⟩ := str_rd g3
            have z1 : n.size = (rdN (valR (n.data.toList, d.data.toList))).length := (congrArg ByteArray.size e1).trans (size_of _)
            have z2 : d.size = (rdD (valR (n.data.toList, d.data.toList))).length := (congrArg ByteArray.size e2).trans (size_of _)
            generalize valR (n.data.toList, d.data.toList) = X at *
            clear g3 cg
            rw [z1] at h1
            rw [z2] at h2
            clear z1 z2
            subst e1
            subst e2
            exact places4_main X k w h3 h4 (by omega) (by omega) hg ht
end Go.Proofs.YtdibnolbichbmaaGreatDoor
