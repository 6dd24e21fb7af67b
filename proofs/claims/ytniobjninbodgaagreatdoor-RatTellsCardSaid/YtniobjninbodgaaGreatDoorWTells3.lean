/- The walk of RatTells. -/
import Derived.Test.YtniobjninbodgaaGreatDoorFixQ
namespace Go.Proofs.YtniobjninbodgaaGreatDoor
open Go.RowKit
set_option linter.unusedSimpArgs false

theorem sh_parts {p : ByteArray × ByteArray} (h : shQ p = true) : p.1.size ≤ 100 ∧ p.2.size ≤ 100 := by
  unfold shQ at h
  rw [Bool.and_eq_true, decide_eq_true_eq, decide_eq_true_eq] at h
  exact h
set_option maxRecDepth 100000 in
set_option maxHeartbeats 4000000 in
theorem tells3_any (n d m c s t : ByteArray) (w : World) (ht : GoodT w) :
    Calls Tryz.prog 3 #[.agg #[.string n, .string d], .agg #[.string m, .string c], .agg #[.string s, .string t]] w (GiveB w true) := by
  cases hs : shQ (n, d) && shQ (m, c) with
  | false =>
    have ch : ∀ w, Calls Tryz.prog 8 #[.slice (some ⟨w.heap.size, 0, none⟩) 2 2] (w.alloc (.cells #[.string n, .string d, .string m, .string c] 23)) fun e w' => e = .returned (.bool false) ∧ Below w.heap.size w w' := fun w => by
      have h := short2q w (n, d) (m, c)
      rw [hs] at h
      exact h
    clear hs
    have CH := Lib.hid ch
    clear ch
    have HT := Lib.hid ht; clear ht
    go_enter Tryz.func3, Tryz.ntmps3
    go_wp2_with fail
    have BW := Below.refl w.heap.size w
    have b0 : Below w.heap.size w w := Below.refl _ _
    obtain ⟨U1, hU, bU, s1, rx0, rx1⟩ := lay b0 (.string n) (.string d) 23
    rw [hU]; clear hU
    replace BW := Below.more BW bU
    replace HT := Lib.hid (HT.out.below bU)
    clear bU
    have b1 := Below.refl U1.heap.size U1
    obtain ⟨U2, hU, bU, s2, ry0, ry1⟩ := lay b1 (.string m) (.string c) 23
    rw [hU]; clear hU
    rw [← s1] at ry0 ry1
    replace rx0 := fun v (h : Below U2.heap.size U2 v) => rx0 v (Below.more bU h)
    replace rx1 := fun v (h : Below U2.heap.size U2 v) => rx1 v (Below.more bU h)
    replace BW := Below.more BW bU
    replace HT := Lib.hid (HT.out.below bU)
    clear bU
    have b2 := Below.refl U2.heap.size U2
    obtain ⟨U3, hU, bU, s3, rt0, rt1⟩ := lay b2 (.string s) (.string t) 24
    rw [hU]; clear hU
    rw [← s2] at rt0 rt1
    rw [← s1] at rt0 rt1
    replace rx0 := fun v (h : Below U3.heap.size U3 v) => rx0 v (Below.more bU h)
    replace rx1 := fun v (h : Below U3.heap.size U3 v) => rx1 v (Below.more bU h)
    replace ry0 := fun v (h : Below U3.heap.size U3 v) => ry0 v (Below.more bU h)
    replace ry1 := fun v (h : Below U3.heap.size U3 v) => ry1 v (Below.more bU h)
    replace BW := Below.more BW bU
    replace HT := Lib.hid (HT.out.below bU)
    clear bU
    have b3 := Below.refl U3.heap.size U3
    have cU := CH.out U3
    rw [← s3, ← s2, ← s1] at cU
    refine cU.mono ?_
    rintro e w9 ⟨rfl, b⟩
    rw [s1, s2, s3] at b
    clear cU s1 s2 s3
    have b9 := Below.more b3 b
    clear b
    go_wp2_with fail
    refine (fixed3_any _ (HT.out.below b9)).mono ?_
    rintro e w10 ⟨rfl, b⟩
    have b10 := Below.more b9 b
    clear b
    go_wp2_with fail
    go_ret
    exact ⟨rfl, Below.more BW b10⟩
  | true =>
    have ch : ∀ w, Calls Tryz.prog 8 #[.slice (some ⟨w.heap.size, 0, none⟩) 2 2] (w.alloc (.cells #[.string n, .string d, .string m, .string c] 23)) fun e w' => e = .returned (.bool true) ∧ Below w.heap.size w w' := fun w => by
      have h := short2q w (n, d) (m, c)
      rw [hs] at h
      exact h
    rw [Bool.and_eq_true] at hs
    obtain ⟨l1, l2⟩ := sh_parts hs.1
    obtain ⟨l3, l4⟩ := sh_parts hs.2
    have l1 : n.size ≤ 100 := l1
    have l2 : d.size ≤ 100 := l2
    have l3 : m.size ≤ 100 := l3
    have l4 : c.size ≤ 100 := l4
    clear hs
    by_cases h1 : s.size ≤ 100
    · by_cases h2 : t.size ≤ 100
      · have g1 : ¬ (100 : Int) < (s.size : Int) := by omega
        have g2 : ¬ (100 : Int) < (t.size : Int) := by omega
        have ca := fun w => qmake_any s t w (by omega) (by omega)
        have ra := fun w => rqmake_any s t w (by omega) (by omega)
        generalize makeR s.data.toList t.data.toList = va at *
        obtain ⟨⟨a1, a2⟩, a3⟩ := va
        have cq := fun w => qdiv_any n d m c w (by omega) (by omega) (by omega) (by omega)
        have rq := fun w => rqdiv_any n d m c w (by omega) (by omega) (by omega) (by omega)
        generalize divR (n.data.toList, d.data.toList) (m.data.toList, c.data.toList) = vq at *
        obtain ⟨⟨q1, q2⟩, q3⟩ := vq
        have cz := fun w => qsplit_any n d w (by omega) (by omega)
        have rz := fun w => rqsplit_any n d w (by omega) (by omega)
        generalize splitR (n.data.toList, d.data.toList) = vz at *
        obtain ⟨z0, ⟨z1, z2⟩⟩ := vz
        have cm := fun w => qmay_any n d w (by omega) (by omega)
        have rm := fun w => rqmay_any n d w (by omega) (by omega)
        generalize isR (n.data.toList, d.data.toList) = vm at *
        have cg := fun w => qsign_any n d w (by omega) (by omega)
        have rg := fun w => rqsign_any n d w (by omega) (by omega)
        generalize sgnR (n.data.toList, d.data.toList) = vg at *
        have cn := fun w => qneg_any n d w (by omega) (by omega)
        have rn := fun w => rqneg_any n d w (by omega) (by omega)
        generalize negR (n.data.toList, d.data.toList) = vn at *
        obtain ⟨n1, n2⟩ := vn
        have cc := fun w => qcmp_any n d m c w (by omega) (by omega) (by omega) (by omega)
        have rc := fun w => rqcmp_any n d m c w (by omega) (by omega) (by omega) (by omega)
        generalize cmpR (n.data.toList, d.data.toList) (m.data.toList, c.data.toList) = vc at *
        have cp := fun w => qadd_any n d m c w (by omega) (by omega) (by omega) (by omega)
        have rp := fun w => rqadd_any n d m c w (by omega) (by omega) (by omega) (by omega)
        generalize addR (n.data.toList, d.data.toList) (m.data.toList, c.data.toList) = vp at *
        obtain ⟨p1, p2⟩ := vp
        have cs := fun w => qsub_any n d m c w (by omega) (by omega) (by omega) (by omega)
        have rs := fun w => rqsub_any n d m c w (by omega) (by omega) (by omega) (by omega)
        generalize subR (n.data.toList, d.data.toList) (m.data.toList, c.data.toList) = vs at *
        obtain ⟨s1, s2⟩ := vs
        have cx := fun w => qmul_any n d m c w (by omega) (by omega) (by omega) (by omega)
        have rx := fun w => rqmul_any n d m c w (by omega) (by omega) (by omega) (by omega)
        generalize mulR (n.data.toList, d.data.toList) (m.data.toList, c.data.toList) = vx at *
        obtain ⟨x1, x2⟩ := vx
        clear l1 l2 l3 l4 h1 h2
        have CH := Lib.hid ch
        clear ch
        have CA := Lib.hid ca; have RA := Lib.hid ra; clear ca ra
        have CQ := Lib.hid cq; have RQ := Lib.hid rq; clear cq rq
        have CZ := Lib.hid cz; have RZ := Lib.hid rz; clear cz rz
        have CM := Lib.hid cm; have RM := Lib.hid rm; clear cm rm
        have CG := Lib.hid cg; have RG := Lib.hid rg; clear cg rg
        have CN := Lib.hid cn; have RN := Lib.hid rn; clear cn rn
        have CC := Lib.hid cc; have RC := Lib.hid rc; clear cc rc
        have CP := Lib.hid cp; have RP := Lib.hid rp; clear cp rp
        have CS := Lib.hid cs; have RS := Lib.hid rs; clear cs rs
        have CX := Lib.hid cx; have RX := Lib.hid rx; clear cx rx
        have HT := Lib.hid ht; clear ht
        go_enter Tryz.func3, Tryz.ntmps3
        go_wp2_with fail
        have BW := Below.refl w.heap.size w
        have b0 : Below w.heap.size w w := Below.refl _ _
        obtain ⟨U1, hU, bU, s1, rx0, rx1⟩ := lay b0 (.string n) (.string d) 23
        rw [hU]; clear hU
        replace BW := Below.more BW bU
        replace HT := Lib.hid (HT.out.below bU)
        clear bU
        have b1 := Below.refl U1.heap.size U1
        obtain ⟨U2, hU, bU, s2, ry0, ry1⟩ := lay b1 (.string m) (.string c) 23
        rw [hU]; clear hU
        rw [← s1] at ry0 ry1
        replace rx0 := fun v (h : Below U2.heap.size U2 v) => rx0 v (Below.more bU h)
        replace rx1 := fun v (h : Below U2.heap.size U2 v) => rx1 v (Below.more bU h)
        replace BW := Below.more BW bU
        replace HT := Lib.hid (HT.out.below bU)
        clear bU
        have b2 := Below.refl U2.heap.size U2
        obtain ⟨U3, hU, bU, s3, rt0, rt1⟩ := lay b2 (.string s) (.string t) 24
        rw [hU]; clear hU
        rw [← s2] at rt0 rt1
        rw [← s1] at rt0 rt1
        replace rx0 := fun v (h : Below U3.heap.size U3 v) => rx0 v (Below.more bU h)
        replace rx1 := fun v (h : Below U3.heap.size U3 v) => rx1 v (Below.more bU h)
        replace ry0 := fun v (h : Below U3.heap.size U3 v) => ry0 v (Below.more bU h)
        replace ry1 := fun v (h : Below U3.heap.size U3 v) => ry1 v (Below.more bU h)
        replace BW := Below.more BW bU
        replace HT := Lib.hid (HT.out.below bU)
        clear bU
        have b3 := Below.refl U3.heap.size U3
        have cU := CH.out U3
        rw [← s3, ← s2, ← s1] at cU
        refine cU.mono ?_
        rintro e w9 ⟨rfl, b⟩
        rw [s1, s2, s3] at b
        clear cU s1 s2 s3
        have b9 := Below.more b3 b
        clear b
        go_wp2_with fail
        refine (CA.out _).mono ?_
        rintro e w10 ⟨rfl, b⟩
        have b10 := Below.more b9 b
        clear b
        have ba := fun x => Below.alloc b10 (Below.size b10) x
        go_wp2_with fail
        obtain ⟨U11, hU, bU, s11, ra0, ra1⟩ := lay b10 (.string ⟨a1.toArray⟩) (.string ⟨a2.toArray⟩) 23
        rw [hU]; clear hU
        clear s11
        replace rx0 := fun v (h : Below U11.heap.size U11 v) => rx0 v (Below.more bU h)
        replace rx1 := fun v (h : Below U11.heap.size U11 v) => rx1 v (Below.more bU h)
        replace ry0 := fun v (h : Below U11.heap.size U11 v) => ry0 v (Below.more bU h)
        replace ry1 := fun v (h : Below U11.heap.size U11 v) => ry1 v (Below.more bU h)
        replace rt0 := fun v (h : Below U11.heap.size U11 v) => rt0 v (Below.more bU h)
        replace rt1 := fun v (h : Below U11.heap.size U11 v) => rt1 v (Below.more bU h)
        replace BW := Below.more BW bU
        replace HT := Lib.hid (HT.out.below bU)
        clear bU
        have b11 := Below.refl U11.heap.size U11
        clear ba
        refine (RA.out _).mono ?_
        rintro e w12 ⟨rfl, b⟩
        have b12 := Below.more b11 b
        clear b
        have ba := fun x => Below.alloc b12 (Below.size b12) x
        go_wp2_with fail
        obtain ⟨U13, hU, bU, s13, rb0, rb1⟩ := lay b12 (.string ⟨a1.toArray⟩) (.string ⟨a2.toArray⟩) 23
        rw [hU]; clear hU
        clear s13
        replace rx0 := fun v (h : Below U13.heap.size U13 v) => rx0 v (Below.more bU h)
        replace rx1 := fun v (h : Below U13.heap.size U13 v) => rx1 v (Below.more bU h)
        replace ry0 := fun v (h : Below U13.heap.size U13 v) => ry0 v (Below.more bU h)
        replace ry1 := fun v (h : Below U13.heap.size U13 v) => ry1 v (Below.more bU h)
        replace rt0 := fun v (h : Below U13.heap.size U13 v) => rt0 v (Below.more bU h)
        replace rt1 := fun v (h : Below U13.heap.size U13 v) => rt1 v (Below.more bU h)
        replace ra0 := fun v (h : Below U13.heap.size U13 v) => ra0 v (Below.more bU h)
        replace ra1 := fun v (h : Below U13.heap.size U13 v) => ra1 v (Below.more bU h)
        replace BW := Below.more BW bU
        replace HT := Lib.hid (HT.out.below bU)
        clear bU
        have b13 := Below.refl U13.heap.size U13
        clear ba
        refine (CQ.out _).mono ?_
        rintro e w14 ⟨rfl, b⟩
        have b14 := Below.more b13 b
        clear b
        have ba := fun x => Below.alloc b14 (Below.size b14) x
        go_wp2_with fail
        obtain ⟨U15, hU, bU, s15, rq0, rq1⟩ := lay b14 (.string ⟨q1.toArray⟩) (.string ⟨q2.toArray⟩) 23
        rw [hU]; clear hU
        clear s15
        replace rx0 := fun v (h : Below U15.heap.size U15 v) => rx0 v (Below.more bU h)
        replace rx1 := fun v (h : Below U15.heap.size U15 v) => rx1 v (Below.more bU h)
        replace ry0 := fun v (h : Below U15.heap.size U15 v) => ry0 v (Below.more bU h)
        replace ry1 := fun v (h : Below U15.heap.size U15 v) => ry1 v (Below.more bU h)
        replace rt0 := fun v (h : Below U15.heap.size U15 v) => rt0 v (Below.more bU h)
        replace rt1 := fun v (h : Below U15.heap.size U15 v) => rt1 v (Below.more bU h)
        replace ra0 := fun v (h : Below U15.heap.size U15 v) => ra0 v (Below.more bU h)
        replace ra1 := fun v (h : Below U15.heap.size U15 v) => ra1 v (Below.more bU h)
        replace rb0 := fun v (h : Below U15.heap.size U15 v) => rb0 v (Below.more bU h)
        replace rb1 := fun v (h : Below U15.heap.size U15 v) => rb1 v (Below.more bU h)
        replace BW := Below.more BW bU
        replace HT := Lib.hid (HT.out.below bU)
        clear bU
        have b15 := Below.refl U15.heap.size U15
        clear ba
        refine (RQ.out _).mono ?_
        rintro e w16 ⟨rfl, b⟩
        have b16 := Below.more b15 b
        clear b
        have ba := fun x => Below.alloc b16 (Below.size b16) x
        go_wp2_with fail
        obtain ⟨U17, hU, bU, s17, ru0, ru1⟩ := lay b16 (.string ⟨q1.toArray⟩) (.string ⟨q2.toArray⟩) 23
        rw [hU]; clear hU
        clear s17
        replace rx0 := fun v (h : Below U17.heap.size U17 v) => rx0 v (Below.more bU h)
        replace rx1 := fun v (h : Below U17.heap.size U17 v) => rx1 v (Below.more bU h)
        replace ry0 := fun v (h : Below U17.heap.size U17 v) => ry0 v (Below.more bU h)
        replace ry1 := fun v (h : Below U17.heap.size U17 v) => ry1 v (Below.more bU h)
        replace rt0 := fun v (h : Below U17.heap.size U17 v) => rt0 v (Below.more bU h)
        replace rt1 := fun v (h : Below U17.heap.size U17 v) => rt1 v (Below.more bU h)
        replace ra0 := fun v (h : Below U17.heap.size U17 v) => ra0 v (Below.more bU h)
        replace ra1 := fun v (h : Below U17.heap.size U17 v) => ra1 v (Below.more bU h)
        replace rb0 := fun v (h : Below U17.heap.size U17 v) => rb0 v (Below.more bU h)
        replace rb1 := fun v (h : Below U17.heap.size U17 v) => rb1 v (Below.more bU h)
        replace rq0 := fun v (h : Below U17.heap.size U17 v) => rq0 v (Below.more bU h)
        replace rq1 := fun v (h : Below U17.heap.size U17 v) => rq1 v (Below.more bU h)
        replace BW := Below.more BW bU
        replace HT := Lib.hid (HT.out.below bU)
        clear bU
        have b17 := Below.refl U17.heap.size U17
        clear ba
        refine (CZ.out _).mono ?_
        rintro e w18 ⟨rfl, b⟩
        have b18 := Below.more b17 b
        clear b
        have ba := fun x => Below.alloc b18 (Below.size b18) x
        go_wp2_with fail
        obtain ⟨U19, hU, bU, s19, rz0, rz1⟩ := lay b18 (.string ⟨z1.toArray⟩) (.string ⟨z2.toArray⟩) 23
        rw [hU]; clear hU
        clear s19
        replace rx0 := fun v (h : Below U19.heap.size U19 v) => rx0 v (Below.more bU h)
        replace rx1 := fun v (h : Below U19.heap.size U19 v) => rx1 v (Below.more bU h)
        replace ry0 := fun v (h : Below U19.heap.size U19 v) => ry0 v (Below.more bU h)
        replace ry1 := fun v (h : Below U19.heap.size U19 v) => ry1 v (Below.more bU h)
        replace rt0 := fun v (h : Below U19.heap.size U19 v) => rt0 v (Below.more bU h)
        replace rt1 := fun v (h : Below U19.heap.size U19 v) => rt1 v (Below.more bU h)
        replace ra0 := fun v (h : Below U19.heap.size U19 v) => ra0 v (Below.more bU h)
        replace ra1 := fun v (h : Below U19.heap.size U19 v) => ra1 v (Below.more bU h)
        replace rb0 := fun v (h : Below U19.heap.size U19 v) => rb0 v (Below.more bU h)
        replace rb1 := fun v (h : Below U19.heap.size U19 v) => rb1 v (Below.more bU h)
        replace rq0 := fun v (h : Below U19.heap.size U19 v) => rq0 v (Below.more bU h)
        replace rq1 := fun v (h : Below U19.heap.size U19 v) => rq1 v (Below.more bU h)
        replace ru0 := fun v (h : Below U19.heap.size U19 v) => ru0 v (Below.more bU h)
        replace ru1 := fun v (h : Below U19.heap.size U19 v) => ru1 v (Below.more bU h)
        replace BW := Below.more BW bU
        replace HT := Lib.hid (HT.out.below bU)
        clear bU
        have b19 := Below.refl U19.heap.size U19
        clear ba
        refine (RZ.out _).mono ?_
        rintro e w20 ⟨rfl, b⟩
        have b20 := Below.more b19 b
        clear b
        have ba := fun x => Below.alloc b20 (Below.size b20) x
        go_wp2_with fail
        obtain ⟨U21, hU, bU, s21, rk0, rk1⟩ := lay b20 (.string ⟨z1.toArray⟩) (.string ⟨z2.toArray⟩) 23
        rw [hU]; clear hU
        clear s21
        replace rx0 := fun v (h : Below U21.heap.size U21 v) => rx0 v (Below.more bU h)
        replace rx1 := fun v (h : Below U21.heap.size U21 v) => rx1 v (Below.more bU h)
        replace ry0 := fun v (h : Below U21.heap.size U21 v) => ry0 v (Below.more bU h)
        replace ry1 := fun v (h : Below U21.heap.size U21 v) => ry1 v (Below.more bU h)
        replace rt0 := fun v (h : Below U21.heap.size U21 v) => rt0 v (Below.more bU h)
        replace rt1 := fun v (h : Below U21.heap.size U21 v) => rt1 v (Below.more bU h)
        replace ra0 := fun v (h : Below U21.heap.size U21 v) => ra0 v (Below.more bU h)
        replace ra1 := fun v (h : Below U21.heap.size U21 v) => ra1 v (Below.more bU h)
        replace rb0 := fun v (h : Below U21.heap.size U21 v) => rb0 v (Below.more bU h)
        replace rb1 := fun v (h : Below U21.heap.size U21 v) => rb1 v (Below.more bU h)
        replace rq0 := fun v (h : Below U21.heap.size U21 v) => rq0 v (Below.more bU h)
        replace rq1 := fun v (h : Below U21.heap.size U21 v) => rq1 v (Below.more bU h)
        replace ru0 := fun v (h : Below U21.heap.size U21 v) => ru0 v (Below.more bU h)
        replace ru1 := fun v (h : Below U21.heap.size U21 v) => ru1 v (Below.more bU h)
        replace rz0 := fun v (h : Below U21.heap.size U21 v) => rz0 v (Below.more bU h)
        replace rz1 := fun v (h : Below U21.heap.size U21 v) => rz1 v (Below.more bU h)
        replace BW := Below.more BW bU
        replace HT := Lib.hid (HT.out.below bU)
        clear bU
        have b21 := Below.refl U21.heap.size U21
        clear ba
        try simp only [List.append_eq, List.cons_append, List.nil_append]
        have hB := Lib.hid (Nat.le_refl U21.heap.size)
        first | (go_region_held3 (fun w' => Below U21.heap.size U21 w')
            (first | (exact b21.drew) | (with_reducible assumption) | (exact Below.alloc (by with_reducible assumption) (Nat.le_trans hB.out (Below.size (by with_reducible assumption))) _) | (exact put2 (by with_reducible assumption) (Nat.le_refl _) _ _) | (exact put2 (by with_reducible assumption) hB.out _ _) | (exact put2 (by with_reducible assumption) (Nat.le_trans hB.out (Below.size (by with_reducible assumption))) _ _))
            (first | (go_at_call 16; (with_reducible refine (held (W := U21) hB.out (CM.out _) (by assumption)).mono ?_); rintro e w'' ⟨rfl, hb, hw⟩; (first | (have hz := zc_made0 hb) | (have hz := zc_made hb) | skip); (try have hz := Zc.below (by assumption) hb); (try (have z0 := hz.c0; have z1 := hz.c1; have z2 := hz.f0; have z3 := hz.f1))) | (go_at_call 17; (with_reducible refine (held (W := U21) hB.out (RM.out _) (by assumption)).mono ?_); rintro e w'' ⟨rfl, hb, hw⟩; (first | (have hz := zc_made0 hb) | (have hz := zc_made hb) | skip); (try have hz := Zc.below (by assumption) hb); (try (have z0 := hz.c0; have z1 := hz.c1; have z2 := hz.f0; have z3 := hz.f1))) | (go_at_call 18; (with_reducible refine (held (W := U21) hB.out (CG.out _) (by assumption)).mono ?_); rintro e w'' ⟨rfl, hb, hw⟩; (first | (have hz := zc_made0 hb) | (have hz := zc_made hb) | skip); (try have hz := Zc.below (by assumption) hb); (try (have z0 := hz.c0; have z1 := hz.c1; have z2 := hz.f0; have z3 := hz.f1))) | (go_at_call 19; (with_reducible refine (held (W := U21) hB.out (RG.out _) (by assumption)).mono ?_); rintro e w'' ⟨rfl, hb, hw⟩; (first | (have hz := zc_made0 hb) | (have hz := zc_made hb) | skip); (try have hz := Zc.below (by assumption) hb); (try (have z0 := hz.c0; have z1 := hz.c1; have z2 := hz.f0; have z3 := hz.f1))) | (go_at_call 20; (with_reducible refine (held (W := U21) hB.out (CN.out _) (by assumption)).mono ?_); rintro e w'' ⟨rfl, hb, hw⟩; (first | (have hz := zc_made0 hb) | (have hz := zc_made hb) | skip); (try have hz := Zc.below (by assumption) hb); (try (have z0 := hz.c0; have z1 := hz.c1; have z2 := hz.f0; have z3 := hz.f1))) | (go_at_call 21; (with_reducible refine (held (W := U21) hB.out (RN.out _) (by assumption)).mono ?_); rintro e w'' ⟨rfl, hb, hw⟩; (first | (have hz := zc_made0 hb) | (have hz := zc_made hb) | skip); (try have hz := Zc.below (by assumption) hb); (try (have z0 := hz.c0; have z1 := hz.c1; have z2 := hz.f0; have z3 := hz.f1))))) | fail
        rename_i hH
        have b22 := hH
        clear hH hB
        go_wp2_with fail
        have hB := Lib.hid (Nat.le_refl U21.heap.size)
        first | (go_region_held3 (fun w' => Below U21.heap.size U21 w')
            (first | (exact b22.drew) | (with_reducible assumption) | (exact Below.alloc (by with_reducible assumption) (Nat.le_trans hB.out (Below.size (by with_reducible assumption))) _) | (exact put2 (by with_reducible assumption) (Nat.le_refl _) _ _) | (exact put2 (by with_reducible assumption) hB.out _ _) | (exact put2 (by with_reducible assumption) (Nat.le_trans hB.out (Below.size (by with_reducible assumption))) _ _))
            (first | (go_at_call 9; (with_reducible refine (held (W := U21) hB.out (fixed3_any _ (HT.out.below (by assumption))) (by assumption)).mono ?_); rintro e w'' ⟨rfl, hb, hw⟩; (first | (have hz := zc_made0 hb) | (have hz := zc_made hb) | skip); (try have hz := Zc.below (by assumption) hb); (try (have z0 := hz.c0; have z1 := hz.c1; have z2 := hz.f0; have z3 := hz.f1))) | (go_at_call 22; (with_reducible refine (held (W := U21) hB.out (CC.out _) (by assumption)).mono ?_); rintro e w'' ⟨rfl, hb, hw⟩; (first | (have hz := zc_made0 hb) | (have hz := zc_made hb) | skip); (try have hz := Zc.below (by assumption) hb); (try (have z0 := hz.c0; have z1 := hz.c1; have z2 := hz.f0; have z3 := hz.f1))) | (go_at_call 23; (with_reducible refine (held (W := U21) hB.out (RC.out _) (by assumption)).mono ?_); rintro e w'' ⟨rfl, hb, hw⟩; (first | (have hz := zc_made0 hb) | (have hz := zc_made hb) | skip); (try have hz := Zc.below (by assumption) hb); (try (have z0 := hz.c0; have z1 := hz.c1; have z2 := hz.f0; have z3 := hz.f1))) | (go_at_call 24; (with_reducible refine (held (W := U21) hB.out (CP.out _) (by assumption)).mono ?_); rintro e w'' ⟨rfl, hb, hw⟩; (first | (have hz := zc_made0 hb) | (have hz := zc_made hb) | skip); (try have hz := Zc.below (by assumption) hb); (try (have z0 := hz.c0; have z1 := hz.c1; have z2 := hz.f0; have z3 := hz.f1))) | (go_at_call 25; (with_reducible refine (held (W := U21) hB.out (RP.out _) (by assumption)).mono ?_); rintro e w'' ⟨rfl, hb, hw⟩; (first | (have hz := zc_made0 hb) | (have hz := zc_made hb) | skip); (try have hz := Zc.below (by assumption) hb); (try (have z0 := hz.c0; have z1 := hz.c1; have z2 := hz.f0; have z3 := hz.f1))) | (go_at_call 26; (with_reducible refine (held (W := U21) hB.out (CS.out _) (by assumption)).mono ?_); rintro e w'' ⟨rfl, hb, hw⟩; (first | (have hz := zc_made0 hb) | (have hz := zc_made hb) | skip); (try have hz := Zc.below (by assumption) hb); (try (have z0 := hz.c0; have z1 := hz.c1; have z2 := hz.f0; have z3 := hz.f1))) | (go_at_call 27; (with_reducible refine (held (W := U21) hB.out (RS.out _) (by assumption)).mono ?_); rintro e w'' ⟨rfl, hb, hw⟩; (first | (have hz := zc_made0 hb) | (have hz := zc_made hb) | skip); (try have hz := Zc.below (by assumption) hb); (try (have z0 := hz.c0; have z1 := hz.c1; have z2 := hz.f0; have z3 := hz.f1))) | (go_at_call 28; (with_reducible refine (held (W := U21) hB.out (CX.out _) (by assumption)).mono ?_); rintro e w'' ⟨rfl, hb, hw⟩; (first | (have hz := zc_made0 hb) | (have hz := zc_made hb) | skip); (try have hz := Zc.below (by assumption) hb); (try (have z0 := hz.c0; have z1 := hz.c1; have z2 := hz.f0; have z3 := hz.f1))) | (go_at_call 29; (with_reducible refine (held (W := U21) hB.out (RX.out _) (by assumption)).mono ?_); rintro e w'' ⟨rfl, hb, hw⟩; (first | (have hz := zc_made0 hb) | (have hz := zc_made hb) | skip); (try have hz := Zc.below (by assumption) hb); (try (have z0 := hz.c0; have z1 := hz.c1; have z2 := hz.f0; have z3 := hz.f1))))) | fail
        rename_i hH
        have b23 := hH
        clear hH hB
        go_wp2_with fail
        go_ret
        exact ⟨rfl, Below.more BW b23⟩
      · have g1 : ¬ (100 : Int) < (s.size : Int) := by omega
        have g2 : (100 : Int) < (t.size : Int) := by omega
        clear l1 l2 l3 l4 h1 h2
        have CH := Lib.hid ch
        clear ch
        have HT := Lib.hid ht; clear ht
        go_enter Tryz.func3, Tryz.ntmps3
        go_wp2_with fail
        have BW := Below.refl w.heap.size w
        have b0 : Below w.heap.size w w := Below.refl _ _
        obtain ⟨U1, hU, bU, s1, rx0, rx1⟩ := lay b0 (.string n) (.string d) 23
        rw [hU]; clear hU
        replace BW := Below.more BW bU
        replace HT := Lib.hid (HT.out.below bU)
        clear bU
        have b1 := Below.refl U1.heap.size U1
        obtain ⟨U2, hU, bU, s2, ry0, ry1⟩ := lay b1 (.string m) (.string c) 23
        rw [hU]; clear hU
        rw [← s1] at ry0 ry1
        replace rx0 := fun v (h : Below U2.heap.size U2 v) => rx0 v (Below.more bU h)
        replace rx1 := fun v (h : Below U2.heap.size U2 v) => rx1 v (Below.more bU h)
        replace BW := Below.more BW bU
        replace HT := Lib.hid (HT.out.below bU)
        clear bU
        have b2 := Below.refl U2.heap.size U2
        obtain ⟨U3, hU, bU, s3, rt0, rt1⟩ := lay b2 (.string s) (.string t) 24
        rw [hU]; clear hU
        rw [← s2] at rt0 rt1
        rw [← s1] at rt0 rt1
        replace rx0 := fun v (h : Below U3.heap.size U3 v) => rx0 v (Below.more bU h)
        replace rx1 := fun v (h : Below U3.heap.size U3 v) => rx1 v (Below.more bU h)
        replace ry0 := fun v (h : Below U3.heap.size U3 v) => ry0 v (Below.more bU h)
        replace ry1 := fun v (h : Below U3.heap.size U3 v) => ry1 v (Below.more bU h)
        replace BW := Below.more BW bU
        replace HT := Lib.hid (HT.out.below bU)
        clear bU
        have b3 := Below.refl U3.heap.size U3
        have cU := CH.out U3
        rw [← s3, ← s2, ← s1] at cU
        refine cU.mono ?_
        rintro e w9 ⟨rfl, b⟩
        rw [s1, s2, s3] at b
        clear cU s1 s2 s3
        have b9 := Below.more b3 b
        clear b
        go_wp2_with fail
        refine (fixed3_any _ (HT.out.below b9)).mono ?_
        rintro e w10 ⟨rfl, b⟩
        have b10 := Below.more b9 b
        clear b
        go_wp2_with fail
        go_ret
        exact ⟨rfl, Below.more BW b10⟩
    · have g1 : (100 : Int) < (s.size : Int) := by omega
      clear l1 l2 l3 l4 h1
      have CH := Lib.hid ch
      clear ch
      have HT := Lib.hid ht; clear ht
      go_enter Tryz.func3, Tryz.ntmps3
      go_wp2_with fail
      have BW := Below.refl w.heap.size w
      have b0 : Below w.heap.size w w := Below.refl _ _
      obtain ⟨U1, hU, bU, s1, rx0, rx1⟩ := lay b0 (.string n) (.string d) 23
      rw [hU]; clear hU
      replace BW := Below.more BW bU
      replace HT := Lib.hid (HT.out.below bU)
      clear bU
      have b1 := Below.refl U1.heap.size U1
      obtain ⟨U2, hU, bU, s2, ry0, ry1⟩ := lay b1 (.string m) (.string c) 23
      rw [hU]; clear hU
      rw [← s1] at ry0 ry1
      replace rx0 := fun v (h : Below U2.heap.size U2 v) => rx0 v (Below.more bU h)
      replace rx1 := fun v (h : Below U2.heap.size U2 v) => rx1 v (Below.more bU h)
      replace BW := Below.more BW bU
      replace HT := Lib.hid (HT.out.below bU)
      clear bU
      have b2 := Below.refl U2.heap.size U2
      obtain ⟨U3, hU, bU, s3, rt0, rt1⟩ := lay b2 (.string s) (.string t) 24
      rw [hU]; clear hU
      rw [← s2] at rt0 rt1
      rw [← s1] at rt0 rt1
      replace rx0 := fun v (h : Below U3.heap.size U3 v) => rx0 v (Below.more bU h)
      replace rx1 := fun v (h : Below U3.heap.size U3 v) => rx1 v (Below.more bU h)
      replace ry0 := fun v (h : Below U3.heap.size U3 v) => ry0 v (Below.more bU h)
      replace ry1 := fun v (h : Below U3.heap.size U3 v) => ry1 v (Below.more bU h)
      replace BW := Below.more BW bU
      replace HT := Lib.hid (HT.out.below bU)
      clear bU
      have b3 := Below.refl U3.heap.size U3
      have cU := CH.out U3
      rw [← s3, ← s2, ← s1] at cU
      refine cU.mono ?_
      rintro e w9 ⟨rfl, b⟩
      rw [s1, s2, s3] at b
      clear cU s1 s2 s3
      have b9 := Below.more b3 b
      clear b
      go_wp2_with fail
      refine (fixed3_any _ (HT.out.below b9)).mono ?_
      rintro e w10 ⟨rfl, b⟩
      have b10 := Below.more b9 b
      clear b
      go_wp2_with fail
      go_ret
      exact ⟨rfl, Below.more BW b10⟩
end Go.Proofs.YtniobjninbodgaaGreatDoor
