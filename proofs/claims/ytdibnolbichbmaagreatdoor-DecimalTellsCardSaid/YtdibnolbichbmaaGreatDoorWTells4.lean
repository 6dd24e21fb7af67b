/- The walk of DecimalTells. -/
import Derived.Test.YtdibnolbichbmaaGreatDoorFixD
namespace Go.Proofs.YtdibnolbichbmaaGreatDoor
open Go.RowKit
set_option linter.unusedSimpArgs false
set_option linter.unusedVariables false

theorem sh_parts {p : ByteArray × ByteArray} (h : shQ p = true) : p.1.size ≤ 100 ∧ p.2.size ≤ 100 := by
  unfold shQ at h
  rw [Bool.and_eq_true, decide_eq_true_eq, decide_eq_true_eq] at h
  exact h
set_option maxRecDepth 100000 in
set_option maxHeartbeats 4000000 in
theorem tells4_any (n d s : ByteArray) (w : World) (ht : GoodD w) :
    Calls Tryz.prog 3 #[.agg #[.string n, .string d], .string s] w (GiveB w true) := by
  have ch : ∀ w, Calls Tryz.prog 8 #[.slice (some ⟨w.heap.size, 0, none⟩) 1 1] (w.alloc (.cells #[.string n, .string d] 23)) fun e w' => e = .returned (.bool (shQ (n, d))) ∧ Below w.heap.size w w' := fun w => short1q w (n, d)
  cases hs : shQ (n, d) with
  | false =>
    rw [hs] at ch
    clear hs
    have CH := Lib.hid ch
    clear ch
    have HT := Lib.hid ht; clear ht
    go_enter Tryz.func3, Tryz.ntmps3
    go_wp2_with fail
    have BW := Below.refl w.heap.size w
    have b0 : Below w.heap.size w w := Below.refl _ _
    obtain ⟨U1, hU, bU, s1, rx0, rx1⟩ := lay b0 (.string n) (.string d) 23
    rw [hU]; clear hU
    replace BW := Below.more BW bU
    replace HT := Lib.hid (HT.out.below bU)
    clear bU
    have b1 := Below.refl U1.heap.size U1
    have cU := CH.out U1
    rw [← s1] at cU
    refine cU.mono ?_
    rintro e w9 ⟨rfl, b⟩
    rw [s1] at b
    clear cU s1
    have b9 := Below.more b1 b
    clear b
    go_wp2_with fail
    refine (fixed4_any _ (HT.out.below b9)).mono ?_
    rintro e w10 ⟨rfl, b⟩
    have b10 := Below.more b9 b
    clear b
    go_wp2_with fail
    go_ret
    exact ⟨rfl, Below.more BW b10⟩
  | true =>
    rw [hs] at ch
    obtain ⟨l1, l2⟩ := sh_parts hs
    have l1 : n.size ≤ 100 := l1
    have l2 : d.size ≤ 100 := l2
    clear hs
    by_cases h1 : s.size ≤ 1100
    · have g1 : ¬ (1100 : Int) < (s.size : Int) := by omega
      have ca := fun w hg => parse_any s w (by omega) hg
      have ra := fun w => rdparse_any s w (by omega)
      generalize parS s.data.toList = v at *
      obtain ⟨⟨a1, a2⟩, a3⟩ := v
      have cq := fun w hg => places_any n d w (by omega) (by omega) hg
      have rq := fun w => rdplaces_any n d w (by omega) (by omega)
      generalize plS (n.data.toList, d.data.toList) = v at *
      obtain ⟨q1, q2⟩ := v
      have cp := fun w hg => print_any n d w (by omega) (by omega) hg
      have rp := fun w => rdprint_any n d w (by omega) (by omega)
      generalize prS (n.data.toList, d.data.toList) = p at *
      clear l1 l2 h1
      have CH := Lib.hid ch
      have CA := Lib.hid ca
      have RA := Lib.hid ra
      have CQ := Lib.hid cq
      have RQ := Lib.hid rq
      have CP := Lib.hid cp
      have RP := Lib.hid rp
      clear ch ca ra cq rq cp rp
      have HT := Lib.hid ht; clear ht
      go_enter Tryz.func3, Tryz.ntmps3
      go_wp2_with fail
      have BW := Below.refl w.heap.size w
      have b0 : Below w.heap.size w w := Below.refl _ _
      obtain ⟨U1, hU, bU, s1, rx0, rx1⟩ := lay b0 (.string n) (.string d) 23
      rw [hU]; clear hU
      replace BW := Below.more BW bU
      replace HT := Lib.hid (HT.out.below bU)
      clear bU
      have b1 := Below.refl U1.heap.size U1
      have cU := CH.out U1
      rw [← s1] at cU
      refine cU.mono ?_
      rintro e w9 ⟨rfl, b⟩
      rw [s1] at b
      clear cU s1
      have b9 := Below.more b1 b
      clear b
      go_wp2_with fail
      refine (CA.out _ (HT.out.below b9)).mono ?_
      rintro e w10 ⟨rfl, b⟩
      have b10 := Below.more b9 b
      clear b
      have ba := fun x => Below.alloc b10 (Below.size b10) x
      go_wp2_with fail
      obtain ⟨U11, hU, bU, s11, ra0, ra1⟩ := lay b10 (.string ⟨a1.toArray⟩) (.string ⟨a2.toArray⟩) 23
      rw [hU]; clear hU
      clear s11
      replace rx0 := fun v (h : Below U11.heap.size U11 v) => rx0 v (Below.more bU h)
      replace rx1 := fun v (h : Below U11.heap.size U11 v) => rx1 v (Below.more bU h)
      replace BW := Below.more BW bU
      replace HT := Lib.hid (HT.out.below bU)
      clear bU
      have b11 := Below.refl U11.heap.size U11
      clear ba
      refine (RA.out _).mono ?_
      rintro e w12 ⟨rfl, b⟩
      have b12 := Below.more b11 b
      clear b
      have ba := fun x => Below.alloc b12 (Below.size b12) x
      go_wp2_with fail
      obtain ⟨U13, hU, bU, s13, rb0, rb1⟩ := lay b12 (.string ⟨a1.toArray⟩) (.string ⟨a2.toArray⟩) 23
      rw [hU]; clear hU
      clear s13
      replace rx0 := fun v (h : Below U13.heap.size U13 v) => rx0 v (Below.more bU h)
      replace rx1 := fun v (h : Below U13.heap.size U13 v) => rx1 v (Below.more bU h)
      replace ra0 := fun v (h : Below U13.heap.size U13 v) => ra0 v (Below.more bU h)
      replace ra1 := fun v (h : Below U13.heap.size U13 v) => ra1 v (Below.more bU h)
      replace BW := Below.more BW bU
      replace HT := Lib.hid (HT.out.below bU)
      clear bU
      have b13 := Below.refl U13.heap.size U13
      clear ba
      refine (CQ.out _ (HT.out.below b13)).mono ?_
      rintro e w14 ⟨rfl, b⟩
      have b14 := Below.more b13 b
      clear b
      go_wp2_with fail
      refine (RQ.out _).mono ?_
      rintro e w15 ⟨rfl, b⟩
      have b15 := Below.more b14 b
      clear b
      go_wp2_with fail
      try simp only [List.append_eq, List.cons_append, List.nil_append]
      have hB := Lib.hid (Nat.le_refl U13.heap.size)
      first | (go_region_held3 (fun w' => Below U13.heap.size U13 w')
          (first | (exact b15.drew) | (with_reducible assumption) | (exact Below.alloc (by with_reducible assumption) (Nat.le_trans hB.out (Below.size (by with_reducible assumption))) _) | (exact put2 (by with_reducible assumption) (Nat.le_refl _) _ _) | (exact put2 (by with_reducible assumption) hB.out _ _) | (exact put2 (by with_reducible assumption) (Nat.le_trans hB.out (Below.size (by with_reducible assumption))) _ _))
          (first | (go_at_call 9; (with_reducible refine (held (W := U13) hB.out (fixed4_any _ (HT.out.below (by assumption))) (by assumption)).mono ?_); rintro e w'' ⟨rfl, hb, hw⟩; (first | (have hz := zc_made0 hb) | (have hz := zc_made hb) | skip); (try have hz := Zc.below (by assumption) hb); (try (have z0 := hz.c0; have z1 := hz.c1; have z2 := hz.f0; have z3 := hz.f1))) | (go_at_call 14; (with_reducible refine (held (W := U13) hB.out (CP.out _ (HT.out.below (by assumption))) (by assumption)).mono ?_); rintro e w'' ⟨rfl, hb, hw⟩; (first | (have hz := zc_made0 hb) | (have hz := zc_made hb) | skip); (try have hz := Zc.below (by assumption) hb); (try (have z0 := hz.c0; have z1 := hz.c1; have z2 := hz.f0; have z3 := hz.f1))) | (go_at_call 15; (with_reducible refine (held (W := U13) hB.out (RP.out _) (by assumption)).mono ?_); rintro e w'' ⟨rfl, hb, hw⟩; (first | (have hz := zc_made0 hb) | (have hz := zc_made hb) | skip); (try have hz := Zc.below (by assumption) hb); (try (have z0 := hz.c0; have z1 := hz.c1; have z2 := hz.f0; have z3 := hz.f1))))) | fail
      rename_i hH
      have b16 := hH
      clear hH hB
      go_wp2_with fail
      go_ret
      exact ⟨rfl, Below.more BW b16⟩
    · have g1 : (1100 : Int) < (s.size : Int) := by omega
      clear l1 l2 h1
      have CH := Lib.hid ch
      clear ch
      have HT := Lib.hid ht; clear ht
      go_enter Tryz.func3, Tryz.ntmps3
      go_wp2_with fail
      have BW := Below.refl w.heap.size w
      have b0 : Below w.heap.size w w := Below.refl _ _
      obtain ⟨U1, hU, bU, s1, rx0, rx1⟩ := lay b0 (.string n) (.string d) 23
      rw [hU]; clear hU
      replace BW := Below.more BW bU
      replace HT := Lib.hid (HT.out.below bU)
      clear bU
      have b1 := Below.refl U1.heap.size U1
      have cU := CH.out U1
      rw [← s1] at cU
      refine cU.mono ?_
      rintro e w9 ⟨rfl, b⟩
      rw [s1] at b
      clear cU s1
      have b9 := Below.more b1 b
      clear b
      go_wp2_with fail
      refine (fixed4_any _ (HT.out.below b9)).mono ?_
      rintro e w10 ⟨rfl, b⟩
      have b10 := Below.more b9 b
      clear b
      go_wp2_with fail
      go_ret
      exact ⟨rfl, Below.more BW b10⟩
end Go.Proofs.YtdibnolbichbmaaGreatDoor
