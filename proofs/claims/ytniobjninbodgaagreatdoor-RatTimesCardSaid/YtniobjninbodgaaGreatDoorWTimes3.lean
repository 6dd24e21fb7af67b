/- The walk of RatTimes. -/
import Derived.Test.YtniobjninbodgaaGreatDoorWSplits3
namespace Go.Proofs.YtniobjninbodgaaGreatDoor
open Go.RowKit
set_option linter.unusedSimpArgs false

theorem lay3 {V w : World} (h : Below V.heap.size V w) (a b c : Value) (t : TypeId) : ∃ U, w.alloc (.cells #[a, b, c] t) = U ∧ Below V.heap.size V U ∧ w.heap.size + 1 = U.heap.size ∧
    (∀ v, Below U.heap.size U v → v.cell? ⟨w.heap.size, 0, none⟩ = some a) ∧ (∀ v, Below U.heap.size U v → v.cell? ⟨w.heap.size, 1, none⟩ = some b) ∧ (∀ v, Below U.heap.size U v → v.cell? ⟨w.heap.size, 2, none⟩ = some c) := by
  have hl : w.heap.size < (w.alloc (.cells #[a, b, c] t)).heap.size := by simp
  refine ⟨_, rfl, h.alloc h.size _, by simp, fun v k => ?_, fun v k => ?_, fun v k => ?_⟩
  · exact (k.cell (p := ⟨w.heap.size, 0, none⟩) hl).trans (cell_new _ _ _ _ rfl 0)
  · exact (k.cell (p := ⟨w.heap.size, 1, none⟩) hl).trans (cell_new _ _ _ _ rfl 1)
  · exact (k.cell (p := ⟨w.heap.size, 2, none⟩) hl).trans (cell_new _ _ _ _ rfl 2)
theorem two_rat : ((2 : Int) : Rat) = 2 := rfl
set_option maxRecDepth 100000 in
set_option maxHeartbeats 4000000 in
theorem times3_main (s t u : ByteArray) (Y : Rat) (w : World) (zs : s.size ≤ 60) (zt : t.size ≤ 60) (zu : u.size ≤ 60) (ks : isW s.data.toList = true) (kt : isW t.data.toList = true) (ku : isW u.data.toList = true)
    (ht0 : t.data.toList ≠ [48]) (hu0 : u.data.toList ≠ [48]) (lY : Lq Y 100) (hg : gdQ (⟨(rdN Y).toArray⟩, ⟨(rdD Y).toArray⟩) = true) (ht : GoodT w) :
    Calls Tryz.prog 7 #[.agg #[.string s, .string t, .string u], .agg #[.string ⟨(rdN Y).toArray⟩, .string ⟨(rdD Y).toArray⟩]] w (GiveB w true) := by
  have g1 : ¬ (60 : Int) < (s.size : Int) := by omega
  have g2 : ¬ (60 : Int) < (t.size : Int) := by omega
  have g3 : ¬ (60 : Int) < (u.size : Int) := by omega
  have e1 := eqB_false ht0
  have e2 := eqB_false hu0
  have nt : valW t.data.toList ≠ 0 := fun e => ht0 (by rw [← wd_valW kt, e]; exact wd_0)
  have nu : valW u.data.toList ≠ 0 := fun e => hu0 (by rw [← wd_valW ku, e]; exact wd_0)
  have ls := (Ltw.of_text ks zs (by decide))
  have lt := (Ltw.of_text kt zt (by decide))
  have lu := (Ltw.of_text ku zu (by decide))
  obtain ⟨x, hx⟩ : ∃ x, Rat.divInt (valW s.data.toList) (valW t.data.toList) = x := ⟨_, rfl⟩
  have lx : Lq x 60 := by rw [← hx]; exact Lq.divInt nt ls.abs lt.abs (by decide) (by decide)
  have mk1 : makeR s.data.toList t.data.toList = ((rdN x, rdD x), true) := by rw [makeR_yes ks kt nt, hx]; rfl
  have hx2 : Rat.divInt (valW s.data.toList * valW u.data.toList) (valW t.data.toList * valW u.data.toList) = x := by rw [Rat.divInt_mul_right nu, hx]
  have m1 : mulW s.data.toList u.data.toList = wd (valW s.data.toList * valW u.data.toList) := by unfold mulW; rw [ks, ku]; rfl
  have m2 : mulW t.data.toList u.data.toList = wd (valW t.data.toList * valW u.data.toList) := by unfold mulW; rw [kt, ku]; rfl
  have lm1 := Ltw.mul ls lu (by decide) (by decide)
  have lm2 := Ltw.mul lt lu (by decide) (by decide)
  have nm2 : valW t.data.toList * valW u.data.toList ≠ 0 := Int.mul_ne_zero nt nu
  have cw1 : ∀ w, Calls Tryz.prog 32 #[.string s] w fun e w' => e = .returned (.bool true) ∧ w = w' := fun w => by
    have c := rwmay_any s w (Nat.le_trans zs (by decide))
    rw [ks] at c
    exact c
  have cw2 : ∀ w, Calls Tryz.prog 32 #[.string t] w fun e w' => e = .returned (.bool true) ∧ w = w' := fun w => by
    have c := rwmay_any t w (Nat.le_trans zt (by decide))
    rw [kt] at c
    exact c
  have cw3 : ∀ w, Calls Tryz.prog 32 #[.string u] w fun e w' => e = .returned (.bool true) ∧ w = w' := fun w => by
    have c := rwmay_any u w (Nat.le_trans zu (by decide))
    rw [ku] at c
    exact c
  have cg : ∀ w, Calls Tryz.prog 30 #[.slice (some ⟨w.heap.size, 0, none⟩) 1 1] (w.alloc (.cells #[.string ⟨(rdN Y).toArray⟩, .string ⟨(rdD Y).toArray⟩] 23)) fun e w' => e = .returned (.bool true) ∧ Below w.heap.size w w' := fun w => by
    have c := good1 w (⟨(rdN Y).toArray⟩, ⟨(rdD Y).toArray⟩)
    rw [hg] at c
    exact c
  have ck1 : ∀ w, Calls Tryz.prog 10 #[.string s, .string t] w (GiveRB w ((rdN x, rdD x), true)) := fun w => by
    have c := qmake_any s t w (Nat.le_trans zs (by decide)) (Nat.le_trans zt (by decide))
    rw [mk1] at c
    exact c
  have cm1 := fun w => rwmul_any s u w (Nat.le_trans zs (by decide)) (Nat.le_trans zu (by decide))
  have cm2 := fun w => rwmul_any t u w (Nat.le_trans zt (by decide)) (Nat.le_trans zu (by decide))
  rw [m1] at cm1
  rw [m2] at cm2
  have ck2 := fun w => qMake lm1 lm2 (by decide) (by decide) nm2 hx2 w
  generalize valW s.data.toList * valW u.data.toList = NK at *
  generalize valW t.data.toList * valW u.data.toList = DK at *
  obtain ⟨S, hS⟩ : ∃ S, x + Y = S := ⟨_, rfl⟩
  have lS : Lq S 161 := by rw [← hS]; exact Lq.add lx lY (by decide)
  have l2 : Lq ((2 : Int) : Rat) 1 := Lq.int (by decide) (by decide) (by decide)
  have n2 : ((2 : Int) : Rat) ≠ 0 := by rw [two_rat]; decide
  obtain ⟨H, hH⟩ : ∃ H, S / ((2 : Int) : Rat) = H := ⟨_, rfl⟩
  have lH : Lq H 163 := by rw [← hH]; exact Lq.div lS l2 n2 (by decide)
  obtain ⟨c, hc⟩ : ∃ c, sgnQ (x - Y) = c := ⟨_, rfl⟩
  have k2 : sgnQ (x - H) = c := by rw [← hH, ← hS, two_rat, half_left, hc]
  have k3 : sgnQ (H - Y) = c := by rw [← hH, ← hS, two_rat, half_right, hc]
  have ca := fun w => qAdd lx lY hS w
  have co := fun w => qOf 2 (by decide) (by decide) w
  have cd := fun w => qDiv lS l2 n2 hH w
  have c1 := fun w => qCmp lx lY hc w
  have cmx := fun w => qMay lx w
  have c2 := fun w => qCmp lx lH k2 w
  have c3 := fun w => qCmp lH lY k3 w
  clear zs zt zu ks kt ku ht0 hu0 hg nt nu ls lt lu hx lx mk1 hx2 m1 m2 lm1 lm2 nm2 hS lS l2 n2 hH lH hc k2 k3 lY
  have CW1 := Lib.hid cw1
  clear cw1
  have CW2 := Lib.hid cw2
  clear cw2
  have CW3 := Lib.hid cw3
  clear cw3
  have CG := Lib.hid cg
  clear cg
  have CK1 := Lib.hid ck1
  clear ck1
  have CM1 := Lib.hid cm1
  clear cm1
  have CM2 := Lib.hid cm2
  clear cm2
  have CK2 := Lib.hid ck2
  clear ck2
  have CA := Lib.hid ca
  clear ca
  have CO := Lib.hid co
  clear co
  have CD := Lib.hid cd
  clear cd
  have C1 := Lib.hid c1
  clear c1
  have CMX := Lib.hid cmx
  clear cmx
  have C2 := Lib.hid c2
  clear c2
  have C3 := Lib.hid c3
  clear c3
  have HT := Lib.hid ht; clear ht
  go_enter Tryz.func7, Tryz.ntmps7
  go_wp2_with fail
  have BW := Below.refl w.heap.size w
  have b0 : Below w.heap.size w w := Below.refl _ _
  obtain ⟨U1, hU, bU, s1, rt0, rt1, rt2⟩ := lay3 b0 (.string s) (.string t) (.string u) 42
  rw [hU]; clear hU
  replace BW := Below.more BW bU
  replace HT := Lib.hid (HT.out.below bU)
  clear bU
  have b1 := Below.refl U1.heap.size U1
  obtain ⟨U2, hU, bU, s2, ry0, ry1⟩ := lay b1 (.string ⟨(rdN Y).toArray⟩) (.string ⟨(rdD Y).toArray⟩) 23
  rw [hU]; clear hU
  rw [← s1] at ry0 ry1
  clear s2
  replace rt0 := fun v (h : Below U2.heap.size U2 v) => rt0 v (Below.more bU h)
  replace rt1 := fun v (h : Below U2.heap.size U2 v) => rt1 v (Below.more bU h)
  replace rt2 := fun v (h : Below U2.heap.size U2 v) => rt2 v (Below.more bU h)
  replace BW := Below.more BW bU
  replace HT := Lib.hid (HT.out.below bU)
  clear bU
  have b2 := Below.refl U2.heap.size U2
  clear s1
  have hB := Lib.hid (Nat.le_refl U2.heap.size)
  first | (go_region_held3 (fun w' => Below U2.heap.size U2 w')
      (first | (exact b2.drew) | (with_reducible assumption) | (exact Below.alloc (by with_reducible assumption) (Nat.le_trans hB.out (Below.size (by with_reducible assumption))) _) | (exact put2 (by with_reducible assumption) (Nat.le_refl _) _ _) | (exact put2 (by with_reducible assumption) hB.out _ _) | (exact put2 (by with_reducible assumption) (Nat.le_trans hB.out (Below.size (by with_reducible assumption))) _ _))
      (fail)) | fail
  rename_i hH
  have b3 := hH
  clear hH hB
  go_wp2_with fail
  refine (fixed3_any _ (HT.out.below b3)).mono ?_
  rintro e w4 ⟨rfl, b⟩
  have b4 := Below.more b3 b
  clear b
  go_wp2_with fail
  refine (CW1.out _).mono ?_
  rintro e w' ⟨rfl, rfl⟩
  go_wp2_with fail
  refine (CW2.out _).mono ?_
  rintro e w' ⟨rfl, rfl⟩
  go_wp2_with fail
  refine (CW3.out _).mono ?_
  rintro e w' ⟨rfl, rfl⟩
  go_wp2_with fail
  refine (CG.out _).mono ?_
  rintro e w5 ⟨rfl, b⟩
  have b5 := Below.more b4 b
  clear b
  go_wp2_with fail
  refine (CK1.out _).mono ?_
  rintro e w6 ⟨rfl, b⟩
  have b6 := Below.more b5 b
  clear b
  have ba := fun x => Below.alloc b6 (Below.size b6) x
  go_wp2_with fail
  obtain ⟨U7, hU, bU, s7, rx0, rx1⟩ := lay b6 (.string ⟨(rdN x).toArray⟩) (.string ⟨(rdD x).toArray⟩) 23
  rw [hU]; clear hU
  clear s7
  replace rt0 := fun v (h : Below U7.heap.size U7 v) => rt0 v (Below.more bU h)
  replace rt1 := fun v (h : Below U7.heap.size U7 v) => rt1 v (Below.more bU h)
  replace rt2 := fun v (h : Below U7.heap.size U7 v) => rt2 v (Below.more bU h)
  replace ry0 := fun v (h : Below U7.heap.size U7 v) => ry0 v (Below.more bU h)
  replace ry1 := fun v (h : Below U7.heap.size U7 v) => ry1 v (Below.more bU h)
  replace BW := Below.more BW bU
  replace HT := Lib.hid (HT.out.below bU)
  clear bU
  have b7 := Below.refl U7.heap.size U7
  clear ba
  refine (CM1.out _).mono ?_
  rintro e w8 ⟨rfl, b⟩
  have b8 := Below.more b7 b
  clear b
  go_wp2_with fail
  refine (CM2.out _).mono ?_
  rintro e w9 ⟨rfl, b⟩
  have b9 := Below.more b8 b
  clear b
  go_wp2_with fail
  refine (CK2.out _).mono ?_
  rintro e w10 ⟨rfl, b⟩
  have b10 := Below.more b9 b
  clear b
  have ba := fun x => Below.alloc b10 (Below.size b10) x
  go_wp2_with fail
  obtain ⟨U11, hU, bU, s11, rz0, rz1⟩ := lay b10 (.string ⟨(rdN x).toArray⟩) (.string ⟨(rdD x).toArray⟩) 23
  rw [hU]; clear hU
  clear s11
  replace rt0 := fun v (h : Below U11.heap.size U11 v) => rt0 v (Below.more bU h)
  replace rt1 := fun v (h : Below U11.heap.size U11 v) => rt1 v (Below.more bU h)
  replace rt2 := fun v (h : Below U11.heap.size U11 v) => rt2 v (Below.more bU h)
  replace ry0 := fun v (h : Below U11.heap.size U11 v) => ry0 v (Below.more bU h)
  replace ry1 := fun v (h : Below U11.heap.size U11 v) => ry1 v (Below.more bU h)
  replace rx0 := fun v (h : Below U11.heap.size U11 v) => rx0 v (Below.more bU h)
  replace rx1 := fun v (h : Below U11.heap.size U11 v) => rx1 v (Below.more bU h)
  replace BW := Below.more BW bU
  replace HT := Lib.hid (HT.out.below bU)
  clear bU
  have b11 := Below.refl U11.heap.size U11
  clear ba
  refine (CA.out _).mono ?_
  rintro e w12 ⟨rfl, b⟩
  have b12 := Below.more b11 b
  clear b
  go_wp2_with fail
  refine (CO.out _ (HT.out.below b12)).mono ?_
  rintro e w13 ⟨rfl, b⟩
  have b13 := Below.more b12 b
  clear b
  go_wp2_with fail
  refine (CD.out _).mono ?_
  rintro e w14 ⟨rfl, b⟩
  have b14 := Below.more b13 b
  clear b
  have ba := fun x => Below.alloc b14 (Below.size b14) x
  go_wp2_with fail
  obtain ⟨U15, hU, bU, s15, rh0, rh1⟩ := lay b14 (.string ⟨(rdN H).toArray⟩) (.string ⟨(rdD H).toArray⟩) 23
  rw [hU]; clear hU
  clear s15
  replace rt0 := fun v (h : Below U15.heap.size U15 v) => rt0 v (Below.more bU h)
  replace rt1 := fun v (h : Below U15.heap.size U15 v) => rt1 v (Below.more bU h)
  replace rt2 := fun v (h : Below U15.heap.size U15 v) => rt2 v (Below.more bU h)
  replace ry0 := fun v (h : Below U15.heap.size U15 v) => ry0 v (Below.more bU h)
  replace ry1 := fun v (h : Below U15.heap.size U15 v) => ry1 v (Below.more bU h)
  replace rx0 := fun v (h : Below U15.heap.size U15 v) => rx0 v (Below.more bU h)
  replace rx1 := fun v (h : Below U15.heap.size U15 v) => rx1 v (Below.more bU h)
  replace rz0 := fun v (h : Below U15.heap.size U15 v) => rz0 v (Below.more bU h)
  replace rz1 := fun v (h : Below U15.heap.size U15 v) => rz1 v (Below.more bU h)
  replace BW := Below.more BW bU
  replace HT := Lib.hid (HT.out.below bU)
  clear bU
  have b15 := Below.refl U15.heap.size U15
  clear ba
  refine (C1.out _).mono ?_
  rintro e w16 ⟨rfl, b⟩
  have b16 := Below.more b15 b
  clear b
  go_wp2_with fail
  refine (CMX.out _).mono ?_
  rintro e w17 ⟨rfl, b⟩
  have b17 := Below.more b16 b
  clear b
  go_wp2_with fail
  refine (C2.out _).mono ?_
  rintro e w18 ⟨rfl, b⟩
  have b18 := Below.more b17 b
  clear b
  go_wp2_with fail
  refine (C3.out _).mono ?_
  rintro e w19 ⟨rfl, b⟩
  have b19 := Below.more b18 b
  clear b
  go_wp2_with fail
  go_ret
  exact ⟨rfl, Below.more BW b19⟩
set_option maxRecDepth 100000 in
set_option maxHeartbeats 4000000 in
theorem times3_any (s t u n d : ByteArray) (w : World) (ht : GoodT w) :
    Calls Tryz.prog 7 #[.agg #[.string s, .string t, .string u], .agg #[.string n, .string d]] w (GiveB w true) := by
  by_cases zs : s.size ≤ 60
  · by_cases zt : t.size ≤ 60
    · by_cases zu : u.size ≤ 60
      · have g1 : ¬ (60 : Int) < (s.size : Int) := by omega
        have g2 : ¬ (60 : Int) < (t.size : Int) := by omega
        have g3 : ¬ (60 : Int) < (u.size : Int) := by omega
        cases ks : isW s.data.toList with
        | false =>
          have cw1 : ∀ w, Calls Tryz.prog 32 #[.string s] w fun e w' => e = .returned (.bool false) ∧ w = w' := fun w => by
            have c := rwmay_any s w (by omega)
            rw [ks] at c
            exact c
          clear ks zs zt zu
          have CW1 := Lib.hid cw1
          clear cw1
          have HT := Lib.hid ht; clear ht
          go_enter Tryz.func7, Tryz.ntmps7
          go_wp2_with fail
          have BW := Below.refl w.heap.size w
          have b0 : Below w.heap.size w w := Below.refl _ _
          obtain ⟨U1, hU, bU, s1, rt0, rt1, rt2⟩ := lay3 b0 (.string s) (.string t) (.string u) 42
          rw [hU]; clear hU
          replace BW := Below.more BW bU
          replace HT := Lib.hid (HT.out.below bU)
          clear bU
          have b1 := Below.refl U1.heap.size U1
          obtain ⟨U2, hU, bU, s2, ry0, ry1⟩ := lay b1 (.string n) (.string d) 23
          rw [hU]; clear hU
          rw [← s1] at ry0 ry1
          clear s2
          replace rt0 := fun v (h : Below U2.heap.size U2 v) => rt0 v (Below.more bU h)
          replace rt1 := fun v (h : Below U2.heap.size U2 v) => rt1 v (Below.more bU h)
          replace rt2 := fun v (h : Below U2.heap.size U2 v) => rt2 v (Below.more bU h)
          replace BW := Below.more BW bU
          replace HT := Lib.hid (HT.out.below bU)
          clear bU
          have b2 := Below.refl U2.heap.size U2
          clear s1
          have hB := Lib.hid (Nat.le_refl U2.heap.size)
          first | (go_region_held3 (fun w' => Below U2.heap.size U2 w')
              (first | (exact b2.drew) | (with_reducible assumption) | (exact Below.alloc (by with_reducible assumption) (Nat.le_trans hB.out (Below.size (by with_reducible assumption))) _) | (exact put2 (by with_reducible assumption) (Nat.le_refl _) _ _) | (exact put2 (by with_reducible assumption) hB.out _ _) | (exact put2 (by with_reducible assumption) (Nat.le_trans hB.out (Below.size (by with_reducible assumption))) _ _))
              (fail)) | fail
          rename_i hH
          have b3 := hH
          clear hH hB
          go_wp2_with fail
          refine (fixed3_any _ (HT.out.below b3)).mono ?_
          rintro e w4 ⟨rfl, b⟩
          have b4 := Below.more b3 b
          clear b
          go_wp2_with fail
          refine (CW1.out _).mono ?_
          rintro e w' ⟨rfl, rfl⟩
          go_wp2_with fail
          refine (fixed3_any _ (HT.out.below b4)).mono ?_
          rintro e w5 ⟨rfl, b⟩
          have b5 := Below.more b4 b
          clear b
          go_wp2_with fail
          go_ret
          exact ⟨rfl, Below.more BW b5⟩
        | true =>
          cases kt : isW t.data.toList with
          | false =>
            have cw1 : ∀ w, Calls Tryz.prog 32 #[.string s] w fun e w' => e = .returned (.bool true) ∧ w = w' := fun w => by
              have c := rwmay_any s w (by omega)
              rw [ks] at c
              exact c
            have cw2 : ∀ w, Calls Tryz.prog 32 #[.string t] w fun e w' => e = .returned (.bool false) ∧ w = w' := fun w => by
              have c := rwmay_any t w (by omega)
              rw [kt] at c
              exact c
            clear ks kt zs zt zu
            have CW1 := Lib.hid cw1
            clear cw1
            have CW2 := Lib.hid cw2
            clear cw2
            have HT := Lib.hid ht; clear ht
            go_enter Tryz.func7, Tryz.ntmps7
            go_wp2_with fail
            have BW := Below.refl w.heap.size w
            have b0 : Below w.heap.size w w := Below.refl _ _
            obtain ⟨U1, hU, bU, s1, rt0, rt1, rt2⟩ := lay3 b0 (.string s) (.string t) (.string u) 42
            rw [hU]; clear hU
            replace BW := Below.more BW bU
            replace HT := Lib.hid (HT.out.below bU)
            clear bU
            have b1 := Below.refl U1.heap.size U1
            obtain ⟨U2, hU, bU, s2, ry0, ry1⟩ := lay b1 (.string n) (.string d) 23
            rw [hU]; clear hU
            rw [← s1] at ry0 ry1
            clear s2
            replace rt0 := fun v (h : Below U2.heap.size U2 v) => rt0 v (Below.more bU h)
            replace rt1 := fun v (h : Below U2.heap.size U2 v) => rt1 v (Below.more bU h)
            replace rt2 := fun v (h : Below U2.heap.size U2 v) => rt2 v (Below.more bU h)
            replace BW := Below.more BW bU
            replace HT := Lib.hid (HT.out.below bU)
            clear bU
            have b2 := Below.refl U2.heap.size U2
            clear s1
            have hB := Lib.hid (Nat.le_refl U2.heap.size)
            first | (go_region_held3 (fun w' => Below U2.heap.size U2 w')
                (first | (exact b2.drew) | (with_reducible assumption) | (exact Below.alloc (by with_reducible assumption) (Nat.le_trans hB.out (Below.size (by with_reducible assumption))) _) | (exact put2 (by with_reducible assumption) (Nat.le_refl _) _ _) | (exact put2 (by with_reducible assumption) hB.out _ _) | (exact put2 (by with_reducible assumption) (Nat.le_trans hB.out (Below.size (by with_reducible assumption))) _ _))
                (fail)) | fail
            rename_i hH
            have b3 := hH
            clear hH hB
            go_wp2_with fail
            refine (fixed3_any _ (HT.out.below b3)).mono ?_
            rintro e w4 ⟨rfl, b⟩
            have b4 := Below.more b3 b
            clear b
            go_wp2_with fail
            refine (CW1.out _).mono ?_
            rintro e w' ⟨rfl, rfl⟩
            go_wp2_with fail
            refine (CW2.out _).mono ?_
            rintro e w' ⟨rfl, rfl⟩
            go_wp2_with fail
            refine (fixed3_any _ (HT.out.below b4)).mono ?_
            rintro e w5 ⟨rfl, b⟩
            have b5 := Below.more b4 b
            clear b
            go_wp2_with fail
            go_ret
            exact ⟨rfl, Below.more BW b5⟩
          | true =>
            cases ku : isW u.data.toList with
            | false =>
              have cw1 : ∀ w, Calls Tryz.prog 32 #[.string s] w fun e w' => e = .returned (.bool true) ∧ w = w' := fun w => by
                have c := rwmay_any s w (by omega)
                rw [ks] at c
                exact c
              have cw2 : ∀ w, Calls Tryz.prog 32 #[.string t] w fun e w' => e = .returned (.bool true) ∧ w = w' := fun w => by
                have c := rwmay_any t w (by omega)
                rw [kt] at c
                exact c
              have cw3 : ∀ w, Calls Tryz.prog 32 #[.string u] w fun e w' => e = .returned (.bool false) ∧ w = w' := fun w => by
                have c := rwmay_any u w (by omega)
                rw [ku] at c
                exact c
              clear ks kt ku zs zt zu
              have CW1 := Lib.hid cw1
              clear cw1
              have CW2 := Lib.hid cw2
              clear cw2
              have CW3 := Lib.hid cw3
              clear cw3
              have HT := Lib.hid ht; clear ht
              go_enter Tryz.func7, Tryz.ntmps7
              go_wp2_with fail
              have BW := Below.refl w.heap.size w
              have b0 : Below w.heap.size w w := Below.refl _ _
              obtain ⟨U1, hU, bU, s1, rt0, rt1, rt2⟩ := lay3 b0 (.string s) (.string t) (.string u) 42
              rw [hU]; clear hU
              replace BW := Below.more BW bU
              replace HT := Lib.hid (HT.out.below bU)
              clear bU
              have b1 := Below.refl U1.heap.size U1
              obtain ⟨U2, hU, bU, s2, ry0, ry1⟩ := lay b1 (.string n) (.string d) 23
              rw [hU]; clear hU
              rw [← s1] at ry0 ry1
              clear s2
              replace rt0 := fun v (h : Below U2.heap.size U2 v) => rt0 v (Below.more bU h)
              replace rt1 := fun v (h : Below U2.heap.size U2 v) => rt1 v (Below.more bU h)
              replace rt2 := fun v (h : Below U2.heap.size U2 v) => rt2 v (Below.more bU h)
              replace BW := Below.more BW bU
              replace HT := Lib.hid (HT.out.below bU)
              clear bU
              have b2 := Below.refl U2.heap.size U2
              clear s1
              have hB := Lib.hid (Nat.le_refl U2.heap.size)
              first | (go_region_held3 (fun w' => Below U2.heap.size U2 w')
                  (first | (exact b2.drew) | (with_reducible assumption) | (exact Below.alloc (by with_reducible assumption) (Nat.le_trans hB.out (Below.size (by with_reducible assumption))) _) | (exact put2 (by with_reducible assumption) (Nat.le_refl _) _ _) | (exact put2 (by with_reducible assumption) hB.out _ _) | (exact put2 (by with_reducible assumption) (Nat.le_trans hB.out (Below.size (by with_reducible assumption))) _ _))
                  (fail)) | fail
              rename_i hH
              have b3 := hH
              clear hH hB
              go_wp2_with fail
              refine (fixed3_any _ (HT.out.below b3)).mono ?_
              rintro e w4 ⟨rfl, b⟩
              have b4 := Below.more b3 b
              clear b
              go_wp2_with fail
              refine (CW1.out _).mono ?_
              rintro e w' ⟨rfl, rfl⟩
              go_wp2_with fail
              refine (CW2.out _).mono ?_
              rintro e w' ⟨rfl, rfl⟩
              go_wp2_with fail
              refine (CW3.out _).mono ?_
              rintro e w' ⟨rfl, rfl⟩
              go_wp2_with fail
              refine (fixed3_any _ (HT.out.below b4)).mono ?_
              rintro e w5 ⟨rfl, b⟩
              have b5 := Below.more b4 b
              clear b
              go_wp2_with fail
              go_ret
              exact ⟨rfl, Below.more BW b5⟩
            | true =>
              by_cases h0 : t.data.toList = [48]
              · have e1 := eqB_true h0
                have cw1 : ∀ w, Calls Tryz.prog 32 #[.string s] w fun e w' => e = .returned (.bool true) ∧ w = w' := fun w => by
                  have c := rwmay_any s w (by omega)
                  rw [ks] at c
                  exact c
                have cw2 : ∀ w, Calls Tryz.prog 32 #[.string t] w fun e w' => e = .returned (.bool true) ∧ w = w' := fun w => by
                  have c := rwmay_any t w (by omega)
                  rw [kt] at c
                  exact c
                have cw3 : ∀ w, Calls Tryz.prog 32 #[.string u] w fun e w' => e = .returned (.bool true) ∧ w = w' := fun w => by
                  have c := rwmay_any u w (by omega)
                  rw [ku] at c
                  exact c
                clear ks kt ku zs zt zu h0
                have CW1 := Lib.hid cw1
                clear cw1
                have CW2 := Lib.hid cw2
                clear cw2
                have CW3 := Lib.hid cw3
                clear cw3
                have HT := Lib.hid ht; clear ht
                go_enter Tryz.func7, Tryz.ntmps7
                go_wp2_with fail
                have BW := Below.refl w.heap.size w
                have b0 : Below w.heap.size w w := Below.refl _ _
                obtain ⟨U1, hU, bU, s1, rt0, rt1, rt2⟩ := lay3 b0 (.string s) (.string t) (.string u) 42
                rw [hU]; clear hU
                replace BW := Below.more BW bU
                replace HT := Lib.hid (HT.out.below bU)
                clear bU
                have b1 := Below.refl U1.heap.size U1
                obtain ⟨U2, hU, bU, s2, ry0, ry1⟩ := lay b1 (.string n) (.string d) 23
                rw [hU]; clear hU
                rw [← s1] at ry0 ry1
                clear s2
                replace rt0 := fun v (h : Below U2.heap.size U2 v) => rt0 v (Below.more bU h)
                replace rt1 := fun v (h : Below U2.heap.size U2 v) => rt1 v (Below.more bU h)
                replace rt2 := fun v (h : Below U2.heap.size U2 v) => rt2 v (Below.more bU h)
                replace BW := Below.more BW bU
                replace HT := Lib.hid (HT.out.below bU)
                clear bU
                have b2 := Below.refl U2.heap.size U2
                clear s1
                have hB := Lib.hid (Nat.le_refl U2.heap.size)
                first | (go_region_held3 (fun w' => Below U2.heap.size U2 w')
                    (first | (exact b2.drew) | (with_reducible assumption) | (exact Below.alloc (by with_reducible assumption) (Nat.le_trans hB.out (Below.size (by with_reducible assumption))) _) | (exact put2 (by with_reducible assumption) (Nat.le_refl _) _ _) | (exact put2 (by with_reducible assumption) hB.out _ _) | (exact put2 (by with_reducible assumption) (Nat.le_trans hB.out (Below.size (by with_reducible assumption))) _ _))
                    (fail)) | fail
                rename_i hH
                have b3 := hH
                clear hH hB
                go_wp2_with fail
                refine (fixed3_any _ (HT.out.below b3)).mono ?_
                rintro e w4 ⟨rfl, b⟩
                have b4 := Below.more b3 b
                clear b
                go_wp2_with fail
                refine (CW1.out _).mono ?_
                rintro e w' ⟨rfl, rfl⟩
                go_wp2_with fail
                refine (CW2.out _).mono ?_
                rintro e w' ⟨rfl, rfl⟩
                go_wp2_with fail
                refine (CW3.out _).mono ?_
                rintro e w' ⟨rfl, rfl⟩
                go_wp2_with fail
                refine (fixed3_any _ (HT.out.below b4)).mono ?_
                rintro e w5 ⟨rfl, b⟩
                have b5 := Below.more b4 b
                clear b
                go_wp2_with fail
                go_ret
                exact ⟨rfl, Below.more BW b5⟩
              · by_cases h1 : u.data.toList = [48]
                · have e1 := eqB_false h0
                  have e2 := eqB_true h1
                  have cw1 : ∀ w, Calls Tryz.prog 32 #[.string s] w fun e w' => e = .returned (.bool true) ∧ w = w' := fun w => by
                    have c := rwmay_any s w (by omega)
                    rw [ks] at c
                    exact c
                  have cw2 : ∀ w, Calls Tryz.prog 32 #[.string t] w fun e w' => e = .returned (.bool true) ∧ w = w' := fun w => by
                    have c := rwmay_any t w (by omega)
                    rw [kt] at c
                    exact c
                  have cw3 : ∀ w, Calls Tryz.prog 32 #[.string u] w fun e w' => e = .returned (.bool true) ∧ w = w' := fun w => by
                    have c := rwmay_any u w (by omega)
                    rw [ku] at c
                    exact c
                  clear ks kt ku zs zt zu h0 h1
                  have CW1 := Lib.hid cw1
                  clear cw1
                  have CW2 := Lib.hid cw2
                  clear cw2
                  have CW3 := Lib.hid cw3
                  clear cw3
                  have HT := Lib.hid ht; clear ht
                  go_enter Tryz.func7, Tryz.ntmps7
                  go_wp2_with fail
                  have BW := Below.refl w.heap.size w
                  have b0 : Below w.heap.size w w := Below.refl _ _
                  obtain ⟨U1, hU, bU, s1, rt0, rt1, rt2⟩ := lay3 b0 (.string s) (.string t) (.string u) 42
                  rw [hU]; clear hU
                  replace BW := Below.more BW bU
                  replace HT := Lib.hid (HT.out.below bU)
                  clear bU
                  have b1 := Below.refl U1.heap.size U1
                  obtain ⟨U2, hU, bU, s2, ry0, ry1⟩ := lay b1 (.string n) (.string d) 23
                  rw [hU]; clear hU
                  rw [← s1] at ry0 ry1
                  clear s2
                  replace rt0 := fun v (h : Below U2.heap.size U2 v) => rt0 v (Below.more bU h)
                  replace rt1 := fun v (h : Below U2.heap.size U2 v) => rt1 v (Below.more bU h)
                  replace rt2 := fun v (h : Below U2.heap.size U2 v) => rt2 v (Below.more bU h)
                  replace BW := Below.more BW bU
                  replace HT := Lib.hid (HT.out.below bU)
                  clear bU
                  have b2 := Below.refl U2.heap.size U2
                  clear s1
                  have hB := Lib.hid (Nat.le_refl U2.heap.size)
                  first | (go_region_held3 (fun w' => Below U2.heap.size U2 w')
                      (first | (exact b2.drew) | (with_reducible assumption) | (exact Below.alloc (by with_reducible assumption) (Nat.le_trans hB.out (Below.size (by with_reducible assumption))) _) | (exact put2 (by with_reducible assumption) (Nat.le_refl _) _ _) | (exact put2 (by with_reducible assumption) hB.out _ _) | (exact put2 (by with_reducible assumption) (Nat.le_trans hB.out (Below.size (by with_reducible assumption))) _ _))
                      (fail)) | fail
                  rename_i hH
                  have b3 := hH
                  clear hH hB
                  go_wp2_with fail
                  refine (fixed3_any _ (HT.out.below b3)).mono ?_
                  rintro e w4 ⟨rfl, b⟩
                  have b4 := Below.more b3 b
                  clear b
                  go_wp2_with fail
                  refine (CW1.out _).mono ?_
                  rintro e w' ⟨rfl, rfl⟩
                  go_wp2_with fail
                  refine (CW2.out _).mono ?_
                  rintro e w' ⟨rfl, rfl⟩
                  go_wp2_with fail
                  refine (CW3.out _).mono ?_
                  rintro e w' ⟨rfl, rfl⟩
                  go_wp2_with fail
                  refine (fixed3_any _ (HT.out.below b4)).mono ?_
                  rintro e w5 ⟨rfl, b⟩
                  have b5 := Below.more b4 b
                  clear b
                  go_wp2_with fail
                  go_ret
                  exact ⟨rfl, Below.more BW b5⟩
                · cases hg : gdQ (n, d) with
                  | false =>
                    have e1 := eqB_false h0
                    have e2 := eqB_false h1
                    have cg : ∀ w, Calls Tryz.prog 30 #[.slice (some ⟨w.heap.size, 0, none⟩) 1 1] (w.alloc (.cells #[.string n, .string d] 23)) fun e w' => e = .returned (.bool false) ∧ Below w.heap.size w w' := fun w => by
                      have c := good1 w (n, d)
                      rw [hg] at c
                      exact c
                    have cw1 : ∀ w, Calls Tryz.prog 32 #[.string s] w fun e w' => e = .returned (.bool true) ∧ w = w' := fun w => by
                      have c := rwmay_any s w (by omega)
                      rw [ks] at c
                      exact c
                    have cw2 : ∀ w, Calls Tryz.prog 32 #[.string t] w fun e w' => e = .returned (.bool true) ∧ w = w' := fun w => by
                      have c := rwmay_any t w (by omega)
                      rw [kt] at c
                      exact c
                    have cw3 : ∀ w, Calls Tryz.prog 32 #[.string u] w fun e w' => e = .returned (.bool true) ∧ w = w' := fun w => by
                      have c := rwmay_any u w (by omega)
                      rw [ku] at c
                      exact c
                    clear ks kt ku zs zt zu h0 h1 hg
                    have CW1 := Lib.hid cw1
                    clear cw1
                    have CW2 := Lib.hid cw2
                    clear cw2
                    have CW3 := Lib.hid cw3
                    clear cw3
                    have CG := Lib.hid cg
                    clear cg
                    have HT := Lib.hid ht; clear ht
                    go_enter Tryz.func7, Tryz.ntmps7
                    go_wp2_with fail
                    have BW := Below.refl w.heap.size w
                    have b0 : Below w.heap.size w w := Below.refl _ _
                    obtain ⟨U1, hU, bU, s1, rt0, rt1, rt2⟩ := lay3 b0 (.string s) (.string t) (.string u) 42
                    rw [hU]; clear hU
                    replace BW := Below.more BW bU
                    replace HT := Lib.hid (HT.out.below bU)
                    clear bU
                    have b1 := Below.refl U1.heap.size U1
                    obtain ⟨U2, hU, bU, s2, ry0, ry1⟩ := lay b1 (.string n) (.string d) 23
                    rw [hU]; clear hU
                    rw [← s1] at ry0 ry1
                    clear s2
                    replace rt0 := fun v (h : Below U2.heap.size U2 v) => rt0 v (Below.more bU h)
                    replace rt1 := fun v (h : Below U2.heap.size U2 v) => rt1 v (Below.more bU h)
                    replace rt2 := fun v (h : Below U2.heap.size U2 v) => rt2 v (Below.more bU h)
                    replace BW := Below.more BW bU
                    replace HT := Lib.hid (HT.out.below bU)
                    clear bU
                    have b2 := Below.refl U2.heap.size U2
                    clear s1
                    have hB := Lib.hid (Nat.le_refl U2.heap.size)
                    first | (go_region_held3 (fun w' => Below U2.heap.size U2 w')
                        (first | (exact b2.drew) | (with_reducible assumption) | (exact Below.alloc (by with_reducible assumption) (Nat.le_trans hB.out (Below.size (by with_reducible assumption))) _) | (exact put2 (by with_reducible assumption) (Nat.le_refl _) _ _) | (exact put2 (by with_reducible assumption) hB.out _ _) | (exact put2 (by with_reducible assumption) (Nat.le_trans hB.out (Below.size (by with_reducible assumption))) _ _))
                        (fail)) | fail
                    rename_i hH
                    have b3 := hH
                    clear hH hB
                    go_wp2_with fail
                    refine (fixed3_any _ (HT.out.below b3)).mono ?_
                    rintro e w4 ⟨rfl, b⟩
                    have b4 := Below.more b3 b
                    clear b
                    go_wp2_with fail
                    refine (CW1.out _).mono ?_
                    rintro e w' ⟨rfl, rfl⟩
                    go_wp2_with fail
                    refine (CW2.out _).mono ?_
                    rintro e w' ⟨rfl, rfl⟩
                    go_wp2_with fail
                    refine (CW3.out _).mono ?_
                    rintro e w' ⟨rfl, rfl⟩
                    go_wp2_with fail
                    refine (CG.out _).mono ?_
                    rintro e w5 ⟨rfl, b⟩
                    have b5 := Below.more b4 b
                    clear b
                    go_wp2_with fail
                    refine (fixed3_any _ (HT.out.below b5)).mono ?_
                    rintro e w6 ⟨rfl, b⟩
                    have b6 := Below.more b5 b
                    clear b
                    go_wp2_with fail
                    go_ret
                    exact ⟨rfl, Below.more BW b6⟩
                  | true =>
                    obtain ⟨h4, h5, h6⟩ := gd_parts hg
                    have lX := Lq.of_text h6 h4 h5 (by decide)
                    obtain ⟨e1, e2⟩ := str_rd h6
                    generalize valR (n.data.toList, d.data.toList) = X at *
                    clear h4 h5 h6 g1 g2 g3
                    subst e1
                    subst e2
                    exact times3_main s t u X w zs zt zu ks kt ku h0 h1 lX hg ht
      · have g1 : ¬ (60 : Int) < (s.size : Int) := by omega
        have g2 : ¬ (60 : Int) < (t.size : Int) := by omega
        have g3 : (60 : Int) < (u.size : Int) := by omega
        clear zs zt zu
        have HT := Lib.hid ht; clear ht
        go_enter Tryz.func7, Tryz.ntmps7
        go_wp2_with fail
        have BW := Below.refl w.heap.size w
        have b0 : Below w.heap.size w w := Below.refl _ _
        obtain ⟨U1, hU, bU, s1, rt0, rt1, rt2⟩ := lay3 b0 (.string s) (.string t) (.string u) 42
        rw [hU]; clear hU
        replace BW := Below.more BW bU
        replace HT := Lib.hid (HT.out.below bU)
        clear bU
        have b1 := Below.refl U1.heap.size U1
        obtain ⟨U2, hU, bU, s2, ry0, ry1⟩ := lay b1 (.string n) (.string d) 23
        rw [hU]; clear hU
        rw [← s1] at ry0 ry1
        clear s2
        replace rt0 := fun v (h : Below U2.heap.size U2 v) => rt0 v (Below.more bU h)
        replace rt1 := fun v (h : Below U2.heap.size U2 v) => rt1 v (Below.more bU h)
        replace rt2 := fun v (h : Below U2.heap.size U2 v) => rt2 v (Below.more bU h)
        replace BW := Below.more BW bU
        replace HT := Lib.hid (HT.out.below bU)
        clear bU
        have b2 := Below.refl U2.heap.size U2
        clear s1
        have hB := Lib.hid (Nat.le_refl U2.heap.size)
        first | (go_region_held3 (fun w' => Below U2.heap.size U2 w')
            (first | (exact b2.drew) | (with_reducible assumption) | (exact Below.alloc (by with_reducible assumption) (Nat.le_trans hB.out (Below.size (by with_reducible assumption))) _) | (exact put2 (by with_reducible assumption) (Nat.le_refl _) _ _) | (exact put2 (by with_reducible assumption) hB.out _ _) | (exact put2 (by with_reducible assumption) (Nat.le_trans hB.out (Below.size (by with_reducible assumption))) _ _))
            (fail)) | fail
        rename_i hH
        have b3 := hH
        clear hH hB
        go_wp2_with fail
        refine (fixed3_any _ (HT.out.below b3)).mono ?_
        rintro e w4 ⟨rfl, b⟩
        have b4 := Below.more b3 b
        clear b
        go_wp2_with fail
        refine (fixed3_any _ (HT.out.below b4)).mono ?_
        rintro e w5 ⟨rfl, b⟩
        have b5 := Below.more b4 b
        clear b
        go_wp2_with fail
        go_ret
        exact ⟨rfl, Below.more BW b5⟩
    · have g1 : ¬ (60 : Int) < (s.size : Int) := by omega
      have g2 : (60 : Int) < (t.size : Int) := by omega
      clear zs zt
      have HT := Lib.hid ht; clear ht
      go_enter Tryz.func7, Tryz.ntmps7
      go_wp2_with fail
      have BW := Below.refl w.heap.size w
      have b0 : Below w.heap.size w w := Below.refl _ _
      obtain ⟨U1, hU, bU, s1, rt0, rt1, rt2⟩ := lay3 b0 (.string s) (.string t) (.string u) 42
      rw [hU]; clear hU
      replace BW := Below.more BW bU
      replace HT := Lib.hid (HT.out.below bU)
      clear bU
      have b1 := Below.refl U1.heap.size U1
      obtain ⟨U2, hU, bU, s2, ry0, ry1⟩ := lay b1 (.string n) (.string d) 23
      rw [hU]; clear hU
      rw [← s1] at ry0 ry1
      clear s2
      replace rt0 := fun v (h : Below U2.heap.size U2 v) => rt0 v (Below.more bU h)
      replace rt1 := fun v (h : Below U2.heap.size U2 v) => rt1 v (Below.more bU h)
      replace rt2 := fun v (h : Below U2.heap.size U2 v) => rt2 v (Below.more bU h)
      replace BW := Below.more BW bU
      replace HT := Lib.hid (HT.out.below bU)
      clear bU
      have b2 := Below.refl U2.heap.size U2
      clear s1
      have hB := Lib.hid (Nat.le_refl U2.heap.size)
      first | (go_region_held3 (fun w' => Below U2.heap.size U2 w')
          (first | (exact b2.drew) | (with_reducible assumption) | (exact Below.alloc (by with_reducible assumption) (Nat.le_trans hB.out (Below.size (by with_reducible assumption))) _) | (exact put2 (by with_reducible assumption) (Nat.le_refl _) _ _) | (exact put2 (by with_reducible assumption) hB.out _ _) | (exact put2 (by with_reducible assumption) (Nat.le_trans hB.out (Below.size (by with_reducible assumption))) _ _))
          (fail)) | fail
      rename_i hH
      have b3 := hH
      clear hH hB
      go_wp2_with fail
      refine (fixed3_any _ (HT.out.below b3)).mono ?_
      rintro e w4 ⟨rfl, b⟩
      have b4 := Below.more b3 b
      clear b
      go_wp2_with fail
      refine (fixed3_any _ (HT.out.below b4)).mono ?_
      rintro e w5 ⟨rfl, b⟩
      have b5 := Below.more b4 b
      clear b
      go_wp2_with fail
      go_ret
      exact ⟨rfl, Below.more BW b5⟩
  · have g1 : (60 : Int) < (s.size : Int) := by omega
    clear zs
    have HT := Lib.hid ht; clear ht
    go_enter Tryz.func7, Tryz.ntmps7
    go_wp2_with fail
    have BW := Below.refl w.heap.size w
    have b0 : Below w.heap.size w w := Below.refl _ _
    obtain ⟨U1, hU, bU, s1, rt0, rt1, rt2⟩ := lay3 b0 (.string s) (.string t) (.string u) 42
    rw [hU]; clear hU
    replace BW := Below.more BW bU
    replace HT := Lib.hid (HT.out.below bU)
    clear bU
    have b1 := Below.refl U1.heap.size U1
    obtain ⟨U2, hU, bU, s2, ry0, ry1⟩ := lay b1 (.string n) (.string d) 23
    rw [hU]; clear hU
    rw [← s1] at ry0 ry1
    clear s2
    replace rt0 := fun v (h : Below U2.heap.size U2 v) => rt0 v (Below.more bU h)
    replace rt1 := fun v (h : Below U2.heap.size U2 v) => rt1 v (Below.more bU h)
    replace rt2 := fun v (h : Below U2.heap.size U2 v) => rt2 v (Below.more bU h)
    replace BW := Below.more BW bU
    replace HT := Lib.hid (HT.out.below bU)
    clear bU
    have b2 := Below.refl U2.heap.size U2
    clear s1
    have hB := Lib.hid (Nat.le_refl U2.heap.size)
    first | (go_region_held3 (fun w' => Below U2.heap.size U2 w')
        (first | (exact b2.drew) | (with_reducible assumption) | (exact Below.alloc (by with_reducible assumption) (Nat.le_trans hB.out (Below.size (by with_reducible assumption))) _) | (exact put2 (by with_reducible assumption) (Nat.le_refl _) _ _) | (exact put2 (by with_reducible assumption) hB.out _ _) | (exact put2 (by with_reducible assumption) (Nat.le_trans hB.out (Below.size (by with_reducible assumption))) _ _))
        (fail)) | fail
    rename_i hH
    have b3 := hH
    clear hH hB
    go_wp2_with fail
    refine (fixed3_any _ (HT.out.below b3)).mono ?_
    rintro e w4 ⟨rfl, b⟩
    have b4 := Below.more b3 b
    clear b
    go_wp2_with fail
    refine (fixed3_any _ (HT.out.below b4)).mono ?_
    rintro e w5 ⟨rfl, b⟩
    have b5 := Below.more b4 b
    clear b
    go_wp2_with fail
    go_ret
    exact ⟨rfl, Below.more BW b5⟩
end Go.Proofs.YtniobjninbodgaaGreatDoor
