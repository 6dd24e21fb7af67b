/- The walk of DecimalWhole. -/
import Derived.Test.YtdibnolbichbmaaGreatDoorFixD
namespace Go.Proofs.YtdibnolbichbmaaGreatDoor
open Go.RowKit
set_option linter.unusedSimpArgs false
set_option linter.unusedVariables false

theorem rd_int (n : Int) : rd ((n : Int) : Rat) = (wd n, [49]) := by
  show (wd _, dig _) = _
  rw [Rat.num_intCast, Rat.den_intCast, dig_one]
theorem par_wd (n : Int) : parU (wd n) = some (n : Rat) := by
  have h := back_u (n : Rat)
  rwa [prD_int] at h
set_option maxRecDepth 100000 in
set_option maxHeartbeats 4000000 in
theorem whole4_any (n : Int) (w : World) (h0 : -9223372036854775808 ≤ n) (h1 : n ≤ 9223372036854775807) (ht : GoodD w) :
    Calls Tryz.prog 7 #[.int .i64 n] w (GiveB w true) := by
  by_cases g1 : n < -1099511627776
  · clear h0 h1
    have HT := Lib.hid ht; clear ht
    go_enter Tryz.func7, Tryz.ntmps7
    go_wp2_with fail
    have BW := Below.refl w.heap.size w
    have b0 : Below w.heap.size w w := Below.refl _ _
    refine (fixed4_any _ (HT.out.below b0)).mono ?_
    rintro e w1 ⟨rfl, b⟩
    have b1 := Below.more b0 b
    clear b
    go_wp2_with fail
    refine (fixed4_any _ (HT.out.below b1)).mono ?_
    rintro e w2 ⟨rfl, b⟩
    have b2 := Below.more b1 b
    clear b
    go_wp2_with fail
    go_ret
    exact ⟨rfl, Below.more BW b2⟩
  · by_cases g2 : 1099511627776 < n
    · clear h0 h1
      have HT := Lib.hid ht; clear ht
      go_enter Tryz.func7, Tryz.ntmps7
      go_wp2_with fail
      have BW := Below.refl w.heap.size w
      have b0 : Below w.heap.size w w := Below.refl _ _
      refine (fixed4_any _ (HT.out.below b0)).mono ?_
      rintro e w1 ⟨rfl, b⟩
      have b1 := Below.more b0 b
      clear b
      go_wp2_with fail
      refine (fixed4_any _ (HT.out.below b1)).mono ?_
      rintro e w2 ⟨rfl, b⟩
      have b2 := Below.more b1 b
      clear b
      go_wp2_with fail
      go_ret
      exact ⟨rfl, Below.more BW b2⟩
    · have hl := len_int h0 h1
      have co := fun w => rqof_any n w h0 h1
      have ca : ∀ w, GoodD w → Calls Tryz.prog 10 #[.string ⟨(wd n).toArray⟩] w (GiveRE w ((wd n, [49]), 0)) := fun w hg => by
        have c := parse_any ⟨(wd n).toArray⟩ w (by rw [size_of]; omega) hg
        have e : parS (⟨(wd n).toArray⟩ : ByteArray).data.toList = ((wd n, [49]), 0) := by
          show parS (wd n) = _
          rw [parS_some (by omega) (par_wd n), rd_int]
        rw [e] at c
        exact c
      have er := isR_rd (n : Rat)
      have ev := valR_rd (n : Rat)
      rw [rd_int] at er ev
      have cm : ∀ w, GoodD w → Calls Tryz.prog 12 #[.agg #[.string ⟨(wd n).toArray⟩, .string ⟨#[49]⟩]] w (GiveIB w (0, true)) := fun w hg => by
        have c := places_any ⟨(wd n).toArray⟩ ⟨#[49]⟩ w (by rw [size_of]; omega) (by decide) hg
        have e : plS ((⟨(wd n).toArray⟩ : ByteArray).data.toList, (⟨#[49]⟩ : ByteArray).data.toList) = (0, true) := by
          show plS (wd n, [49]) = _
          rw [pl_den er, ev, plc_int]; rfl
        rw [e] at c
        exact c
      have cp : ∀ w, GoodD w → Calls Tryz.prog 14 #[.agg #[.string ⟨(wd n).toArray⟩, .string ⟨#[49]⟩]] w (GiveS w (wd n)) := fun w hg => by
        have c := print_any ⟨(wd n).toArray⟩ ⟨#[49]⟩ w (by rw [size_of]; omega) (by decide) hg
        have e : prS ((⟨(wd n).toArray⟩ : ByteArray).data.toList, (⟨#[49]⟩ : ByteArray).data.toList) = wd n := by
          show prS (wd n, [49]) = _
          rw [prS_yes er, ev, prD_int]
        rw [e] at c
        exact c
      have cn := fun w => rqone_any n 100 w h0 h1 (by decide) (by decide)
      rw [makeR_ww (by decide)] at cn
      obtain ⟨k, hk, hk2⟩ := plc_hundred n
      have lQ : (rdN (Rat.divInt n 100)).length ≤ 1000 ∧ (rdD (Rat.divInt n 100)).length ≤ 1000 := by
        have e := divInt_pos (n := n) (d := 100) (by decide)
        refine ⟨?_, ?_⟩
        · show (wd _).length ≤ _
          refine Nat.le_trans (wd_length _) (Nat.succ_le_of_lt (Nat.lt_of_le_of_lt (dig_length (k := 19) (by decide) ?_) (by decide)))
          rw [e.1]
          refine Nat.lt_of_le_of_lt (natAbs_ediv _ _) ?_
          exact Nat.lt_of_le_of_lt (show n.natAbs ≤ 9223372036854775808 by omega) (by decide)
        · show (dig _).length ≤ _
          refine Nat.le_trans (dig_length (k := 3) (by decide) ?_) (by decide)
          have h2 := e.2
          have h3 : (100 : Int) / (Nat.gcd n.natAbs (100 : Int).natAbs : Int) ≤ 100 := Int.ediv_le_self _ (by decide)
          omega
      have ck : ∀ w, GoodD w → Calls Tryz.prog 12 #[.agg #[.string ⟨(rdN (Rat.divInt n 100)).toArray⟩, .string ⟨(rdD (Rat.divInt n 100)).toArray⟩]] w (GiveIB w ((k : Int), true)) := fun w hg => by
        have c := places_any ⟨(rdN (Rat.divInt n 100)).toArray⟩ ⟨(rdD (Rat.divInt n 100)).toArray⟩ w (by rw [size_of]; omega) (by rw [size_of]; omega) hg
        have e : plS ((⟨(rdN (Rat.divInt n 100)).toArray⟩ : ByteArray).data.toList, (⟨(rdD (Rat.divInt n 100)).toArray⟩ : ByteArray).data.toList) = ((k : Int), true) := by
          show plS (rd (Rat.divInt n 100)) = _
          rw [pl_den (isR_rd _), valR_rd, hk]; rfl
        rw [e] at c
        exact c
      have cn : ∀ w, Calls Tryz.prog 23 #[.int .i64 n, .int .i64 100] w (GiveR w (rdN (Rat.divInt n 100), rdD (Rat.divInt n 100))) := cn
      generalize rdN (Rat.divInt n 100) = r1 at *
      generalize rdD (Rat.divInt n 100) = r2 at *
      generalize wd n = x at *
      have hk3 : (k : Int) ≤ 2 := by omega
      clear hk hk2 lQ er ev hl h0 h1
      have CO := Lib.hid co
      have CA := Lib.hid ca
      have CM := Lib.hid cm
      have CP := Lib.hid cp
      have CN := Lib.hid cn
      have CK := Lib.hid ck
      clear co ca cm cp cn ck
      have HT := Lib.hid ht; clear ht
      go_enter Tryz.func7, Tryz.ntmps7
      go_wp2_with fail
      have BW := Below.refl w.heap.size w
      have b0 : Below w.heap.size w w := Below.refl _ _
      refine (fixed4_any _ (HT.out.below b0)).mono ?_
      rintro e w1 ⟨rfl, b⟩
      have b1 := Below.more b0 b
      clear b
      go_wp2_with fail
      refine (CO.out _).mono ?_
      rintro e w2 ⟨rfl, b⟩
      have b2 := Below.more b1 b
      clear b
      have ba := fun x => Below.alloc b2 (Below.size b2) x
      go_wp2_with fail
      obtain ⟨U3, hU, bU, s3, rx0, rx1⟩ := lay b2 (.string ⟨x.toArray⟩) (.string ⟨#[49]⟩) 23
      rw [hU]; clear hU
      clear s3
      replace BW := Below.more BW bU
      replace HT := Lib.hid (HT.out.below bU)
      clear bU
      have b3 := Below.refl U3.heap.size U3
      clear ba
      refine (CA.out _ (HT.out.below b3)).mono ?_
      rintro e w4 ⟨rfl, b⟩
      have b4 := Below.more b3 b
      clear b
      go_wp2_with fail
      obtain ⟨U5, hU, bU, s5, ry0, ry1⟩ := lay b4 (.string ⟨x.toArray⟩) (.string ⟨#[49]⟩) 23
      rw [hU]; clear hU
      clear s5
      replace rx0 := fun v (h : Below U5.heap.size U5 v) => rx0 v (Below.more bU h)
      replace rx1 := fun v (h : Below U5.heap.size U5 v) => rx1 v (Below.more bU h)
      replace BW := Below.more BW bU
      replace HT := Lib.hid (HT.out.below bU)
      clear bU
      have b5 := Below.refl U5.heap.size U5
      refine (CN.out _).mono ?_
      rintro e w6 ⟨rfl, b⟩
      have b6 := Below.more b5 b
      clear b
      go_wp2_with fail
      refine (CK.out _ (HT.out.below b6)).mono ?_
      rintro e w7 ⟨rfl, b⟩
      have b7 := Below.more b6 b
      clear b
      go_wp2_with fail
      refine (CM.out _ (HT.out.below b7)).mono ?_
      rintro e w8 ⟨rfl, b⟩
      have b8 := Below.more b7 b
      clear b
      go_wp2_with fail
      try simp only [List.append_eq, List.cons_append, List.nil_append]
      have hB := Lib.hid (Nat.le_refl U5.heap.size)
      first | (go_region_held3 (fun w' => Below U5.heap.size U5 w')
          (first | (exact b8.drew) | (with_reducible assumption) | (exact Below.alloc (by with_reducible assumption) (Nat.le_trans hB.out (Below.size (by with_reducible assumption))) _) | (exact put2 (by with_reducible assumption) (Nat.le_refl _) _ _) | (exact put2 (by with_reducible assumption) hB.out _ _) | (exact put2 (by with_reducible assumption) (Nat.le_trans hB.out (Below.size (by with_reducible assumption))) _ _))
          (first | (go_at_call 14; (with_reducible refine (held (W := U5) hB.out (CP.out _ (HT.out.below (by assumption))) (by assumption)).mono ?_); rintro e w'' ⟨rfl, hb, hw⟩; (first | (have hz := zc_made0 hb) | (have hz := zc_made hb) | skip); (try have hz := Zc.below (by assumption) hb); (try (have z0 := hz.c0; have z1 := hz.c1; have z2 := hz.f0; have z3 := hz.f1))))) | fail
      rename_i hH
      have b9 := hH
      clear hH hB
      go_wp2_with fail
      go_ret
      exact ⟨rfl, Below.more BW b9⟩
end Go.Proofs.YtdibnolbichbmaaGreatDoor
