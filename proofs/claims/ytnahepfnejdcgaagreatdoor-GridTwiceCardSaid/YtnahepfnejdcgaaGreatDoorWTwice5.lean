/- The walk of GridTwice. -/
import Derived.Deep.CutRange
import Derived.Test.YtnahepfnejdcgaaGreatDoorWHalves5
namespace Go.Proofs.YtnahepfnejdcgaaGreatDoor
open Go.RowKit
set_option linter.unusedSimpArgs false
set_option linter.unusedVariables false

theorem zc_set {b : Nat} {a c x y : Value} {v : World} (h : Zc b a c v) : Zc b x y ((v.setCell ⟨b, 0, none⟩ x).setCell ⟨b, 1, none⟩ y) := by
  have e0 : (v.setCell ⟨b, 0, none⟩ x).cell? ⟨b, 1, none⟩ = some c := by rw [cell?_setCell_ne _ _ _ _ _ (by omega)]; exact h.c1
  refine ⟨?_, ?_, ?_, ?_, ?_⟩
  · rw [cell?_setCell_ne _ _ _ _ _ (by omega), World.cell?_setCell_same' _ _ _ (by rw [h.c0]; rfl)]
  · rw [World.cell?_setCell_same' _ _ _ (by rw [e0]; rfl)]
  · simpa using h.f0
  · simpa using h.f1
  · simpa using h.lt
set_option maxRecDepth 100000 in
set_option maxHeartbeats 4000000 in
theorem twice5_walk (n : Int) {x1 x2 g1 g2 v1 v2 r1 r2 t1 t2 c1 c2 m1 m2 : List UInt8} {s : Int} (w : World) (hs : ¬ s ≤ 0) (n0 : ¬ n < 1) (n1 : ¬ 1000 < n) (ht : GoodG w)
    (CG : Hid (∀ w, Calls Tryz.prog 15 #[.slice (some ⟨w.heap.size, 0, none⟩) 2 2] (w.alloc (.cells #[.string ⟨x1.toArray⟩, .string ⟨x2.toArray⟩, .string ⟨g1.toArray⟩, .string ⟨g2.toArray⟩] 23)) fun e w' => e = .returned (.bool true) ∧ Below w.heap.size w w'))
    (CS : Hid (∀ w, Calls Tryz.prog 16 #[.agg #[.string ⟨g1.toArray⟩, .string ⟨g2.toArray⟩]] w (GiveI w s)))
    (CO : Hid (∀ w, Calls Tryz.prog 24 #[.int .i64 n] w (GiveR w (m1, m2))))
    (CM : Hid (∀ w, Calls Tryz.prog 23 #[.agg #[.string ⟨g1.toArray⟩, .string ⟨g2.toArray⟩], .agg #[.string ⟨m1.toArray⟩, .string ⟨m2.toArray⟩]] w (GiveR w (v1, v2))))
    (CC : Hid (∀ w, GoodG w → Calls Tryz.prog 13 #[.agg #[.string ⟨x1.toArray⟩, .string ⟨x2.toArray⟩]] w (GiveR w (c1, c2))))
    (CC2 : Hid (∀ w, GoodG w → Calls Tryz.prog 13 #[.agg #[.string ⟨c1.toArray⟩, .string ⟨c2.toArray⟩]] w (GiveR w (c1, c2))))
    (R1 : Hid (∀ w, GoodG w → Calls Tryz.prog 11 #[.agg #[.string ⟨x1.toArray⟩, .string ⟨x2.toArray⟩], .agg #[.string ⟨g1.toArray⟩, .string ⟨g2.toArray⟩], .int .i64 0] w (GiveR w (r1, r2))))
    (R2 : Hid (∀ w, GoodG w → Calls Tryz.prog 11 #[.agg #[.string ⟨r1.toArray⟩, .string ⟨r2.toArray⟩], .agg #[.string ⟨v1.toArray⟩, .string ⟨v2.toArray⟩], .int .i64 0] w (GiveR w (t1, t2))))
    (R3 : Hid (∀ w, GoodG w → Calls Tryz.prog 11 #[.agg #[.string ⟨x1.toArray⟩, .string ⟨x2.toArray⟩], .agg #[.string ⟨v1.toArray⟩, .string ⟨v2.toArray⟩], .int .i64 0] w (GiveR w (t1, t2)))) :
    Calls Tryz.prog 6 #[.agg #[.string ⟨x1.toArray⟩, .string ⟨x2.toArray⟩], .agg #[.string ⟨g1.toArray⟩, .string ⟨g2.toArray⟩], .int .i64 n] w (GiveB w true) := by
  have HT := Lib.hid ht; clear ht
  go_enter Tryz.func6, Tryz.ntmps6
  go_wp2_with fail
  have BW := Below.refl w.heap.size w
  have b0 : Below w.heap.size w w := Below.refl _ _
  obtain ⟨U1, hU, bU, s1, rx0, rx1⟩ := lay b0 (.string ⟨x1.toArray⟩) (.string ⟨x2.toArray⟩) 23
  rw [hU]; clear hU
  replace BW := Below.more BW bU
  replace HT := Lib.hid (HT.out.below bU)
  clear bU
  have b1 := Below.refl U1.heap.size U1
  obtain ⟨U2, hU, bU, s2, ry0, ry1⟩ := lay b1 (.string ⟨g1.toArray⟩) (.string ⟨g2.toArray⟩) 23
  rw [hU]; clear hU
  rw [← s1] at ry0 ry1
  clear s2
  replace rx0 := fun v (h : Below U2.heap.size U2 v) => rx0 v (Below.more bU h)
  replace rx1 := fun v (h : Below U2.heap.size U2 v) => rx1 v (Below.more bU h)
  replace BW := Below.more BW bU
  replace HT := Lib.hid (HT.out.below bU)
  clear bU
  have b2 := Below.refl U2.heap.size U2
  clear s1
  go_wp2_with fail
  refine (fixed5_any _ (HT.out.below b2)).mono ?_
  rintro e w3 ⟨rfl, b⟩
  have b3 := Below.more b2 b
  clear b
  go_wp2_with fail
  refine (CG.out _).mono ?_
  rintro e w4 ⟨rfl, b⟩
  have b4 := Below.more b3 b
  clear b
  go_wp2_with fail
  refine (CS.out _).mono ?_
  rintro e w5 ⟨rfl, b⟩
  have b5 := Below.more b4 b
  clear b
  go_upto_region 3 with fail
  have hB := Lib.hid (Nat.le_refl U2.heap.size)
  go_cut [7] from 32 to 35 (fun t7 wx => (∃ p, t7 = .pointer (some ⟨p, 0, none⟩) ∧ Zc p (.string ⟨v1.toArray⟩) (.string ⟨v2.toArray⟩) wx) ∧ Below U2.heap.size U2 wx)
  case first =>
    first | (go_region_held3 (fun w' => Below U2.heap.size U2 w')
      (first | (exact b5.drew) | (with_reducible assumption) | (exact Below.alloc (by with_reducible assumption) (Nat.le_trans hB.out (Below.size (by with_reducible assumption))) _) | (exact put2 (by with_reducible assumption) (Nat.le_refl _) _ _) | (exact put2 (by with_reducible assumption) hB.out _ _) | (exact put2 (by with_reducible assumption) (Nat.le_trans hB.out (Below.size (by with_reducible assumption))) _ _))
      (first | (go_at_call 24; (with_reducible refine (held (W := U2) hB.out (CO.out _) (by assumption)).mono ?_); rintro e w'' ⟨rfl, hb, hw⟩; (first | (have hz := zc_made0 hb) | (have hz := zc_made hb) | skip); (try have hz := Zc.below (by assumption) hb); (try (have z0 := hz.c0; have z1 := hz.c1; have z2 := hz.f0; have z3 := hz.f1))) | (go_at_call 23; (with_reducible refine (held (W := U2) hB.out (CM.out _) (by assumption)).mono ?_); rintro e w'' ⟨rfl, hb, hw⟩; (first | (have hz := zc_made0 hb) | (have hz := zc_made hb) | skip); (try have hz := Zc.below (by assumption) hb); (try (have z0 := hz.c0; have z1 := hz.c1; have z2 := hz.f0; have z3 := hz.f1))))) | fail
    all_goals (go_wp2_with fail)
    all_goals (go_meet)
    all_goals (exact ⟨⟨_, rfl, (by first | exact zc_new _ _ _ _ | exact zc_set (by assumption))⟩, by with_reducible assumption⟩)
  case rest =>
    obtain ⟨⟨p, rfl, hz⟩, hc⟩ := hcut
    clear hB
    have rv0 := fun v (h : Below wc.heap.size wc v) => (hz.below h).c0
    have rv1 := fun v (h : Below wc.heap.size wc v) => (hz.below h).c1
    replace rx0 := fun v (h : Below wc.heap.size wc v) => rx0 v (Below.more hc h)
    replace rx1 := fun v (h : Below wc.heap.size wc v) => rx1 v (Below.more hc h)
    replace ry0 := fun v (h : Below wc.heap.size wc v) => ry0 v (Below.more hc h)
    replace ry1 := fun v (h : Below wc.heap.size wc v) => ry1 v (Below.more hc h)
    replace BW := Below.more BW hc
    replace HT := Lib.hid (HT.out.below hc)
    have b20 := Below.refl wc.heap.size wc
    clear hc hz
    go_wp2_with fail
    refine (CC.out _ (HT.out.below b20)).mono ?_
    rintro e w21 ⟨rfl, b⟩
    have b21 := Below.more b20 b
    clear b
    go_wp2_with fail
    obtain ⟨U22, hU, bU, s22, rc0, rc1⟩ := lay b21 (.string ⟨c1.toArray⟩) (.string ⟨c2.toArray⟩) 23
    rw [hU]; clear hU
    clear s22
    replace rx0 := fun v (h : Below U22.heap.size U22 v) => rx0 v (Below.more bU h)
    replace rx1 := fun v (h : Below U22.heap.size U22 v) => rx1 v (Below.more bU h)
    replace ry0 := fun v (h : Below U22.heap.size U22 v) => ry0 v (Below.more bU h)
    replace ry1 := fun v (h : Below U22.heap.size U22 v) => ry1 v (Below.more bU h)
    replace rv0 := fun v (h : Below U22.heap.size U22 v) => rv0 v (Below.more bU h)
    replace rv1 := fun v (h : Below U22.heap.size U22 v) => rv1 v (Below.more bU h)
    replace BW := Below.more BW bU
    replace HT := Lib.hid (HT.out.below bU)
    clear bU
    have b22 := Below.refl U22.heap.size U22
    have hB := Lib.hid (Nat.le_refl U22.heap.size)
    first | (go_region_held3 (fun w' => Below U22.heap.size U22 w')
        (first | (exact b22.drew) | (with_reducible assumption) | (exact Below.alloc (by with_reducible assumption) (Nat.le_trans hB.out (Below.size (by with_reducible assumption))) _) | (exact put2 (by with_reducible assumption) (Nat.le_refl _) _ _) | (exact put2 (by with_reducible assumption) hB.out _ _) | (exact put2 (by with_reducible assumption) (Nat.le_trans hB.out (Below.size (by with_reducible assumption))) _ _))
        (first | (go_at_call 11; (with_reducible show Calls _ _ #[.agg #[.string ⟨x1.toArray⟩, .string ⟨x2.toArray⟩], .agg #[.string ⟨g1.toArray⟩, .string ⟨g2.toArray⟩], .int .i64 0] _ _); (with_reducible refine (held (W := U22) hB.out (R1.out _ (HT.out.below (by assumption))) (by assumption)).mono ?_); rintro e w'' ⟨rfl, hb, hw⟩; (first | (have hz := zc_made0 hb) | (have hz := zc_made hb) | skip); (try have hz := Zc.below (by assumption) hb); (try (have z0 := hz.c0; have z1 := hz.c1; have z2 := hz.f0; have z3 := hz.f1))) | (go_at_call 11; (with_reducible show Calls _ _ #[.agg #[.string ⟨r1.toArray⟩, .string ⟨r2.toArray⟩], .agg #[.string ⟨v1.toArray⟩, .string ⟨v2.toArray⟩], .int .i64 0] _ _); (with_reducible refine (held (W := U22) hB.out (R2.out _ (HT.out.below (by assumption))) (by assumption)).mono ?_); rintro e w'' ⟨rfl, hb, hw⟩; (first | (have hz := zc_made0 hb) | (have hz := zc_made hb) | skip); (try have hz := Zc.below (by assumption) hb); (try (have z0 := hz.c0; have z1 := hz.c1; have z2 := hz.f0; have z3 := hz.f1))) | (go_at_call 11; (with_reducible show Calls _ _ #[.agg #[.string ⟨x1.toArray⟩, .string ⟨x2.toArray⟩], .agg #[.string ⟨v1.toArray⟩, .string ⟨v2.toArray⟩], .int .i64 0] _ _); (with_reducible refine (held (W := U22) hB.out (R3.out _ (HT.out.below (by assumption))) (by assumption)).mono ?_); rintro e w'' ⟨rfl, hb, hw⟩; (first | (have hz := zc_made0 hb) | (have hz := zc_made hb) | skip); (try have hz := Zc.below (by assumption) hb); (try (have z0 := hz.c0; have z1 := hz.c1; have z2 := hz.f0; have z3 := hz.f1))) | (go_at_call 13; (with_reducible refine (held (W := U22) hB.out (CC2.out _ (HT.out.below (by assumption))) (by assumption)).mono ?_); rintro e w'' ⟨rfl, hb, hw⟩; (first | (have hz := zc_made0 hb) | (have hz := zc_made hb) | skip); (try have hz := Zc.below (by assumption) hb); (try (have z0 := hz.c0; have z1 := hz.c1; have z2 := hz.f0; have z3 := hz.f1))))) | fail
    rename_i hH
    have b23 := hH
    clear hH hB
    go_wp2_with fail
    go_ret
    exact ⟨ret_bool (by first | rfl | simp [*]), Below.more BW b23⟩
set_option maxRecDepth 100000 in
set_option maxHeartbeats 4000000 in
theorem twice5_any (n d m c : ByteArray) (k : Int) (w : World) (k0 : -9223372036854775808 ≤ k) (k1 : k ≤ 9223372036854775807) (ht : GoodG w) :
    Calls Tryz.prog 6 #[.agg #[.string n, .string d], .agg #[.string m, .string c], .int .i64 k] w (GiveB w true) := by
  have cg : ∀ w, Calls Tryz.prog 15 #[.slice (some ⟨w.heap.size, 0, none⟩) 2 2] (w.alloc (.cells #[.string n, .string d, .string m, .string c] 23)) fun e w' => e = .returned (.bool (gdQ (n, d) && gdQ (m, c))) ∧ Below w.heap.size w w' := fun w => good2 w (n, d) (m, c)
  cases hg : gdQ (n, d) && gdQ (m, c) with
  | false =>
    rw [hg] at cg
    clear hg
    have CG := Lib.hid cg
    clear cg
    have HT := Lib.hid ht; clear ht
    go_enter Tryz.func6, Tryz.ntmps6
    go_wp2_with fail
    have BW := Below.refl w.heap.size w
    have b0 : Below w.heap.size w w := Below.refl _ _
    obtain ⟨U1, hU, bU, s1, rx0, rx1⟩ := lay b0 (.string n) (.string d) 23
    rw [hU]; clear hU
    replace BW := Below.more BW bU
    replace HT := Lib.hid (HT.out.below bU)
    clear bU
    have b1 := Below.refl U1.heap.size U1
    obtain ⟨U2, hU, bU, s2, ry0, ry1⟩ := lay b1 (.string m) (.string c) 23
    rw [hU]; clear hU
    rw [← s1] at ry0 ry1
    clear s2
    replace rx0 := fun v (h : Below U2.heap.size U2 v) => rx0 v (Below.more bU h)
    replace rx1 := fun v (h : Below U2.heap.size U2 v) => rx1 v (Below.more bU h)
    replace BW := Below.more BW bU
    replace HT := Lib.hid (HT.out.below bU)
    clear bU
    have b2 := Below.refl U2.heap.size U2
    clear s1
    go_wp2_with fail
    refine (fixed5_any _ (HT.out.below b2)).mono ?_
    rintro e w3 ⟨rfl, b⟩
    have b3 := Below.more b2 b
    clear b
    go_wp2_with fail
    refine (CG.out _).mono ?_
    rintro e w4 ⟨rfl, b⟩
    have b4 := Below.more b3 b
    clear b
    go_wp2_with fail
    refine (fixed5_any _ (HT.out.below b4)).mono ?_
    rintro e w5 ⟨rfl, b⟩
    have b5 := Below.more b4 b
    clear b
    go_wp2_with fail
    go_ret
    exact ⟨rfl, Below.more BW b5⟩
  | true =>
    rw [hg] at cg
    rw [Bool.and_eq_true] at hg
    obtain ⟨g1, g2, g3⟩ := gd_parts5 hg.1
    obtain ⟨g4, g5, g6⟩ := gd_parts5 hg.2
    clear hg
    have lx := Lq.of_text (k := 100) g3 g1 g2 (by decide)
    have lg := Lq.of_text (k := 100) g6 g4 g5 (by decide)
    obtain ⟨e1, e2⟩ := str_rd g3
    obtain ⟨e3, e4⟩ := str_rd g6
    generalize valR ((n, d).1.data.toList, (n, d).2.data.toList) = X at *
    generalize valR ((m, c).1.data.toList, (m, c).2.data.toList) = G at *
    have e1 : n = _ := e1
    have e2 : d = _ := e2
    have e3 : m = _ := e3
    have e4 : c = _ := e4
    clear g1 g2 g3 g4 g5 g6
    subst e1
    subst e2
    subst e3
    subst e4
    have cs := dSign lg (s := sgnQ G) rfl
    by_cases hs : sgnQ G ≤ 0
    · generalize rdN X = x1 at *
      generalize rdD X = x2 at *
      generalize rdN G = g1 at *
      generalize rdD G = g2 at *
      generalize sgnQ G = s at *
      clear lx lg
      have CG := Lib.hid cg
      have CS := Lib.hid cs
      clear cg cs
      have HT := Lib.hid ht; clear ht
      go_enter Tryz.func6, Tryz.ntmps6
      go_wp2_with fail
      have BW := Below.refl w.heap.size w
      have b0 : Below w.heap.size w w := Below.refl _ _
      obtain ⟨U1, hU, bU, s1, rx0, rx1⟩ := lay b0 (.string ⟨x1.toArray⟩) (.string ⟨x2.toArray⟩) 23
      rw [hU]; clear hU
      replace BW := Below.more BW bU
      replace HT := Lib.hid (HT.out.below bU)
      clear bU
      have b1 := Below.refl U1.heap.size U1
      obtain ⟨U2, hU, bU, s2, ry0, ry1⟩ := lay b1 (.string ⟨g1.toArray⟩) (.string ⟨g2.toArray⟩) 23
      rw [hU]; clear hU
      rw [← s1] at ry0 ry1
      clear s2
      replace rx0 := fun v (h : Below U2.heap.size U2 v) => rx0 v (Below.more bU h)
      replace rx1 := fun v (h : Below U2.heap.size U2 v) => rx1 v (Below.more bU h)
      replace BW := Below.more BW bU
      replace HT := Lib.hid (HT.out.below bU)
      clear bU
      have b2 := Below.refl U2.heap.size U2
      clear s1
      go_wp2_with fail
      refine (fixed5_any _ (HT.out.below b2)).mono ?_
      rintro e w3 ⟨rfl, b⟩
      have b3 := Below.more b2 b
      clear b
      go_wp2_with fail
      refine (CG.out _).mono ?_
      rintro e w4 ⟨rfl, b⟩
      have b4 := Below.more b3 b
      clear b
      go_wp2_with fail
      refine (CS.out _).mono ?_
      rintro e w5 ⟨rfl, b⟩
      have b5 := Below.more b4 b
      clear b
      go_wp2_with fail
      refine (fixed5_any _ (HT.out.below b5)).mono ?_
      rintro e w6 ⟨rfl, b⟩
      have b6 := Below.more b5 b
      clear b
      go_wp2_with fail
      go_ret
      exact ⟨rfl, Below.more BW b6⟩
    · have h0 : 0 < G := Classical.byContradiction fun h => hs (sgn_le_zero.2 h)
      by_cases n0 : k < 1
      · generalize rdN X = x1 at *
        generalize rdD X = x2 at *
        generalize rdN G = g1 at *
        generalize rdD G = g2 at *
        generalize sgnQ G = s at *
        clear lx lg k0 k1 h0
        have CG := Lib.hid cg
        have CS := Lib.hid cs
        clear cg cs
        have HT := Lib.hid ht; clear ht
        go_enter Tryz.func6, Tryz.ntmps6
        go_wp2_with fail
        have BW := Below.refl w.heap.size w
        have b0 : Below w.heap.size w w := Below.refl _ _
        obtain ⟨U1, hU, bU, s1, rx0, rx1⟩ := lay b0 (.string ⟨x1.toArray⟩) (.string ⟨x2.toArray⟩) 23
        rw [hU]; clear hU
        replace BW := Below.more BW bU
        replace HT := Lib.hid (HT.out.below bU)
        clear bU
        have b1 := Below.refl U1.heap.size U1
        obtain ⟨U2, hU, bU, s2, ry0, ry1⟩ := lay b1 (.string ⟨g1.toArray⟩) (.string ⟨g2.toArray⟩) 23
        rw [hU]; clear hU
        rw [← s1] at ry0 ry1
        clear s2
        replace rx0 := fun v (h : Below U2.heap.size U2 v) => rx0 v (Below.more bU h)
        replace rx1 := fun v (h : Below U2.heap.size U2 v) => rx1 v (Below.more bU h)
        replace BW := Below.more BW bU
        replace HT := Lib.hid (HT.out.below bU)
        clear bU
        have b2 := Below.refl U2.heap.size U2
        clear s1
        go_wp2_with fail
        refine (fixed5_any _ (HT.out.below b2)).mono ?_
        rintro e w3 ⟨rfl, b⟩
        have b3 := Below.more b2 b
        clear b
        go_wp2_with fail
        refine (CG.out _).mono ?_
        rintro e w4 ⟨rfl, b⟩
        have b4 := Below.more b3 b
        clear b
        go_wp2_with fail
        refine (CS.out _).mono ?_
        rintro e w5 ⟨rfl, b⟩
        have b5 := Below.more b4 b
        clear b
        go_wp2_with fail
        refine (fixed5_any _ (HT.out.below b5)).mono ?_
        rintro e w6 ⟨rfl, b⟩
        have b6 := Below.more b5 b
        clear b
        go_wp2_with fail
        go_ret
        exact ⟨rfl, Below.more BW b6⟩
      · by_cases n1 : 1000 < k
        · generalize rdN X = x1 at *
          generalize rdD X = x2 at *
          generalize rdN G = g1 at *
          generalize rdD G = g2 at *
          generalize sgnQ G = s at *
          clear lx lg k0 k1 h0
          have CG := Lib.hid cg
          have CS := Lib.hid cs
          clear cg cs
          have HT := Lib.hid ht; clear ht
          go_enter Tryz.func6, Tryz.ntmps6
          go_wp2_with fail
          have BW := Below.refl w.heap.size w
          have b0 : Below w.heap.size w w := Below.refl _ _
          obtain ⟨U1, hU, bU, s1, rx0, rx1⟩ := lay b0 (.string ⟨x1.toArray⟩) (.string ⟨x2.toArray⟩) 23
          rw [hU]; clear hU
          replace BW := Below.more BW bU
          replace HT := Lib.hid (HT.out.below bU)
          clear bU
          have b1 := Below.refl U1.heap.size U1
          obtain ⟨U2, hU, bU, s2, ry0, ry1⟩ := lay b1 (.string ⟨g1.toArray⟩) (.string ⟨g2.toArray⟩) 23
          rw [hU]; clear hU
          rw [← s1] at ry0 ry1
          clear s2
          replace rx0 := fun v (h : Below U2.heap.size U2 v) => rx0 v (Below.more bU h)
          replace rx1 := fun v (h : Below U2.heap.size U2 v) => rx1 v (Below.more bU h)
          replace BW := Below.more BW bU
          replace HT := Lib.hid (HT.out.below bU)
          clear bU
          have b2 := Below.refl U2.heap.size U2
          clear s1
          go_wp2_with fail
          refine (fixed5_any _ (HT.out.below b2)).mono ?_
          rintro e w3 ⟨rfl, b⟩
          have b3 := Below.more b2 b
          clear b
          go_wp2_with fail
          refine (CG.out _).mono ?_
          rintro e w4 ⟨rfl, b⟩
          have b4 := Below.more b3 b
          clear b
          go_wp2_with fail
          refine (CS.out _).mono ?_
          rintro e w5 ⟨rfl, b⟩
          have b5 := Below.more b4 b
          clear b
          go_wp2_with fail
          refine (fixed5_any _ (HT.out.below b5)).mono ?_
          rintro e w6 ⟨rfl, b⟩
          have b6 := Below.more b5 b
          clear b
          go_wp2_with fail
          go_ret
          exact ⟨rfl, Below.more BW b6⟩
        · have hk : 0 < k := by omega
          have co := fun w => rqof_any k w k0 k1
          have lk : Lq (k : Rat) 4 := Lq.whole (Nat.lt_of_le_of_lt (show k.natAbs ≤ 1000 by omega) (by decide)) (by decide) (by decide)
          have lw : Lq (G * (k : Rat)) (100 + 4 + 1) := Lq.mul lg lk (by decide)
          have hw : 0 < G * (k : Rat) := Rat.mul_pos h0 (pos_cast hk)
          have cm := dMul lg lk (z := G * (k : Rat)) rfl
          rw [rdN_int, rdD_int] at cm
          have lr := Lq.rnd lx lg h0 0 (by decide)
          have lc := Lq.rnd lx Lq.cent cent_pos 2 (by decide)
          have r1 := fun w hg => gRound lx lg (by decide) (by decide) h0 0 (by decide) rfl w hg
          have r2 := fun w hg => gRound lr lw (by decide) (by decide) hw 0 (by decide) (rnd_twice X h0 hk) w hg
          have r3 := fun w hg => gRound lx lw (by decide) (by decide) hw 0 (by decide) rfl w hg
          have cc := fun w hg => gCents lx (by decide) rfl w hg
          have cc2 := fun w hg => gCents lc (by decide) (rnd_stay 2 X cent_pos) w hg
          exact twice5_walk k w hs n0 n1 ht (Lib.hid cg) (Lib.hid cs) (Lib.hid co) (Lib.hid cm) (Lib.hid cc) (Lib.hid cc2) (Lib.hid r1) (Lib.hid r2) (Lib.hid r3)
end Go.Proofs.YtnahepfnejdcgaaGreatDoor
