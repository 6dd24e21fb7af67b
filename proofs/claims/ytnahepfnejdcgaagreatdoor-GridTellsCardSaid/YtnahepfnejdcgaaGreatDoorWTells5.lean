/- The walk of GridTells. -/
import Derived.Deep.CutRange
import Derived.Test.YtnahepfnejdcgaaGreatDoorFixG
namespace Go.Proofs.YtnahepfnejdcgaaGreatDoor
open Go.RowKit
set_option linter.unusedSimpArgs false
set_option linter.unusedVariables false

theorem sh_parts5 {p : ByteArray × ByteArray} (h : shQ p = true) : p.1.size ≤ 100 ∧ p.2.size ≤ 100 := by
  unfold shQ at h
  rw [Bool.and_eq_true, decide_eq_true_eq, decide_eq_true_eq] at h
  exact h
set_option maxRecDepth 100000 in
set_option maxHeartbeats 4000000 in
theorem tells5_any (n d m c : ByteArray) (mode : Int) (w : World) (ht : GoodG w) :
    Calls Tryz.prog 3 #[.agg #[.string n, .string d], .agg #[.string m, .string c], .int .i64 mode] w (GiveB w true) := by
  have ch : ∀ w, Calls Tryz.prog 7 #[.slice (some ⟨w.heap.size, 0, none⟩) 2 2] (w.alloc (.cells #[.string n, .string d, .string m, .string c] 23)) fun e w' => e = .returned (.bool (shQ (n, d) && shQ (m, c))) ∧ Below w.heap.size w w' := fun w => short2q w (n, d) (m, c)
  cases hs : shQ (n, d) && shQ (m, c) with
  | false =>
    rw [hs] at ch
    clear hs
    have CH := Lib.hid ch
    clear ch
    have HT := Lib.hid ht; clear ht
    go_enter Tryz.func3, Tryz.ntmps3
    go_wp2_with fail
    have BW := Below.refl w.heap.size w
    have b0 : Below w.heap.size w w := Below.refl _ _
    obtain ⟨U1, hU, bU, s1, rx0, rx1⟩ := lay b0 (.string n) (.string d) 23
    rw [hU]; clear hU
    replace BW := Below.more BW bU
    replace HT := Lib.hid (HT.out.below bU)
    clear bU
    have b1 := Below.refl U1.heap.size U1
    obtain ⟨U2, hU, bU, s2, ry0, ry1⟩ := lay b1 (.string m) (.string c) 23
    rw [hU]; clear hU
    rw [← s1] at ry0 ry1
    replace rx0 := fun v (h : Below U2.heap.size U2 v) => rx0 v (Below.more bU h)
    replace rx1 := fun v (h : Below U2.heap.size U2 v) => rx1 v (Below.more bU h)
    replace BW := Below.more BW bU
    replace HT := Lib.hid (HT.out.below bU)
    clear bU
    have b2 := Below.refl U2.heap.size U2
    have cU := CH.out U2
    rw [← s2, ← s1] at cU
    refine cU.mono ?_
    rintro e w9 ⟨rfl, b⟩
    rw [s1, s2] at b
    clear cU s1 s2
    have b9 := Below.more b2 b
    clear b
    go_wp2_with fail
    refine (fixed5_any _ (HT.out.below b9)).mono ?_
    rintro e w10 ⟨rfl, b⟩
    have b10 := Below.more b9 b
    clear b
    go_wp2_with fail
    go_ret
    exact ⟨rfl, Below.more BW b10⟩
  | true =>
    rw [hs] at ch
    rw [Bool.and_eq_true] at hs
    obtain ⟨l1, l2⟩ := sh_parts5 hs.1
    obtain ⟨l3, l4⟩ := sh_parts5 hs.2
    have l1 : n.size ≤ 100 := l1
    have l2 : d.size ≤ 100 := l2
    have l3 : m.size ≤ 100 := l3
    have l4 : c.size ≤ 100 := l4
    clear hs
    have cw := fun w hg => gwhole_any n d mode w (by omega) (by omega) hg
    have rw' := fun w => rgwhole_any n d mode w (by omega) (by omega)
    generalize whS (n.data.toList, d.data.toList) mode = p at *
    have cr := fun w hg => ground_any n d m c mode w (by omega) (by omega) (by omega) (by omega) hg
    have rr := fun w => rground_any n d m c mode w (by omega) (by omega) (by omega) (by omega)
    generalize rndS (n.data.toList, d.data.toList) (m.data.toList, c.data.toList) mode = v at *
    obtain ⟨v1, v2⟩ := v
    have cc := fun w hg => gcents_any n d w (by omega) (by omega) hg
    have rc := fun w => rgcents_any n d w (by omega) (by omega)
    generalize cenS (n.data.toList, d.data.toList) = u at *
    obtain ⟨u1, u2⟩ := u
    clear l1 l2 l3 l4
    have RW := Lib.hid rw'; clear rw'
    have CH := Lib.hid ch
    have CW := Lib.hid cw
    have CR := Lib.hid cr
    have RR := Lib.hid rr
    have CC := Lib.hid cc
    have RC := Lib.hid rc
    clear ch cw cr rr cc rc
    have HT := Lib.hid ht; clear ht
    go_enter Tryz.func3, Tryz.ntmps3
    go_wp2_with fail
    have BW := Below.refl w.heap.size w
    have b0 : Below w.heap.size w w := Below.refl _ _
    obtain ⟨U1, hU, bU, s1, rx0, rx1⟩ := lay b0 (.string n) (.string d) 23
    rw [hU]; clear hU
    replace BW := Below.more BW bU
    replace HT := Lib.hid (HT.out.below bU)
    clear bU
    have b1 := Below.refl U1.heap.size U1
    obtain ⟨U2, hU, bU, s2, ry0, ry1⟩ := lay b1 (.string m) (.string c) 23
    rw [hU]; clear hU
    rw [← s1] at ry0 ry1
    replace rx0 := fun v (h : Below U2.heap.size U2 v) => rx0 v (Below.more bU h)
    replace rx1 := fun v (h : Below U2.heap.size U2 v) => rx1 v (Below.more bU h)
    replace BW := Below.more BW bU
    replace HT := Lib.hid (HT.out.below bU)
    clear bU
    have b2 := Below.refl U2.heap.size U2
    have cU := CH.out U2
    rw [← s2, ← s1] at cU
    refine cU.mono ?_
    rintro e w9 ⟨rfl, b⟩
    rw [s1, s2] at b
    clear cU s1 s2
    have b9 := Below.more b2 b
    clear b
    go_wp2_with fail
    try simp only [List.append_eq, List.cons_append, List.nil_append]
    have hB := Lib.hid (Nat.le_refl U2.heap.size)
    first | (go_region_held3 (fun w' => Below U2.heap.size U2 w')
        (first | (exact b9.drew) | (with_reducible assumption) | (exact Below.alloc (by with_reducible assumption) (Nat.le_trans hB.out (Below.size (by with_reducible assumption))) _) | (exact put2 (by with_reducible assumption) (Nat.le_refl _) _ _) | (exact put2 (by with_reducible assumption) hB.out _ _) | (exact put2 (by with_reducible assumption) (Nat.le_trans hB.out (Below.size (by with_reducible assumption))) _ _))
        (first | (go_at_call 8; (with_reducible refine (held (W := U2) hB.out (fixed5_any _ (HT.out.below (by assumption))) (by assumption)).mono ?_); rintro e w'' ⟨rfl, hb, hw⟩; (first | (have hz := zc_made0 hb) | (have hz := zc_made hb) | skip); (try have hz := Zc.below (by assumption) hb); (try (have z0 := hz.c0; have z1 := hz.c1; have z2 := hz.f0; have z3 := hz.f1))) | (go_at_call 9; (with_reducible refine (held (W := U2) hB.out (CW.out _ (HT.out.below (by assumption))) (by assumption)).mono ?_); rintro e w'' ⟨rfl, hb, hw⟩; (first | (have hz := zc_made0 hb) | (have hz := zc_made hb) | skip); (try have hz := Zc.below (by assumption) hb); (try (have z0 := hz.c0; have z1 := hz.c1; have z2 := hz.f0; have z3 := hz.f1))) | (go_at_call 10; (with_reducible refine (held (W := U2) hB.out (RW.out _) (by assumption)).mono ?_); rintro e w'' ⟨rfl, hb, hw⟩; (first | (have hz := zc_made0 hb) | (have hz := zc_made hb) | skip); (try have hz := Zc.below (by assumption) hb); (try (have z0 := hz.c0; have z1 := hz.c1; have z2 := hz.f0; have z3 := hz.f1))) | (go_at_call 11; (with_reducible refine (held (W := U2) hB.out (CR.out _ (HT.out.below (by assumption))) (by assumption)).mono ?_); rintro e w'' ⟨rfl, hb, hw⟩; (first | (have hz := zc_made0 hb) | (have hz := zc_made hb) | skip); (try have hz := Zc.below (by assumption) hb); (try (have z0 := hz.c0; have z1 := hz.c1; have z2 := hz.f0; have z3 := hz.f1))) | (go_at_call 12; (with_reducible refine (held (W := U2) hB.out (RR.out _) (by assumption)).mono ?_); rintro e w'' ⟨rfl, hb, hw⟩; (first | (have hz := zc_made0 hb) | (have hz := zc_made hb) | skip); (try have hz := Zc.below (by assumption) hb); (try (have z0 := hz.c0; have z1 := hz.c1; have z2 := hz.f0; have z3 := hz.f1))) | (go_at_call 13; (with_reducible refine (held (W := U2) hB.out (CC.out _ (HT.out.below (by assumption))) (by assumption)).mono ?_); rintro e w'' ⟨rfl, hb, hw⟩; (first | (have hz := zc_made0 hb) | (have hz := zc_made hb) | skip); (try have hz := Zc.below (by assumption) hb); (try (have z0 := hz.c0; have z1 := hz.c1; have z2 := hz.f0; have z3 := hz.f1))) | (go_at_call 14; (with_reducible refine (held (W := U2) hB.out (RC.out _) (by assumption)).mono ?_); rintro e w'' ⟨rfl, hb, hw⟩; (first | (have hz := zc_made0 hb) | (have hz := zc_made hb) | skip); (try have hz := Zc.below (by assumption) hb); (try (have z0 := hz.c0; have z1 := hz.c1; have z2 := hz.f0; have z3 := hz.f1))))) | fail
    rename_i hH
    have b10 := hH
    clear hH hB
    go_wp2_with fail
    go_ret
    exact ⟨rfl, Below.more BW b10⟩
end Go.Proofs.YtnahepfnejdcgaaGreatDoor
