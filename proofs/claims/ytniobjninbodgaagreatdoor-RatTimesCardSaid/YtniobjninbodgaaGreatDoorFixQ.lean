/- The fixed calls at the head of each statement of layer 3. -/
import Derived.Deep.CutRange
import Derived.Test.YtniobjninbodgaaGreatDoorAllApiQ
namespace Go.Proofs.YtniobjninbodgaaGreatDoor
open Go.RowKit

/-- A fraction laid into a block of its own in the middle of a walk. -/
theorem lay {V w : World} (h : Below V.heap.size V w) (a b : Value) (t : TypeId) : ∃ U, w.alloc (.cells #[a, b] t) = U ∧ Below V.heap.size V U ∧ w.heap.size + 1 = U.heap.size ∧
    (∀ v, Below U.heap.size U v → v.cell? ⟨w.heap.size, 0, none⟩ = some a) ∧ (∀ v, Below U.heap.size U v → v.cell? ⟨w.heap.size, 1, none⟩ = some b) :=
  ⟨_, rfl, h.alloc h.size _, by simp, fun _ k => (zc_made k).c0, fun _ k => (zc_made k).c1⟩
theorem k_one12 (w : World) : Calls Tryz.prog 34 #[.int .i64 1, .int .i64 2] w (GiveR w ([49], [50])) := by
  have h := rqone_any (1) 2 w (by decide) (by decide) (by decide) (by decide)
  rw [one_c (q := ([49], [50])) (by decide +kernel)] at h
  exact h
theorem k_one13 (w : World) : Calls Tryz.prog 34 #[.int .i64 1, .int .i64 3] w (GiveR w ([49], [51])) := by
  have h := rqone_any (1) 3 w (by decide) (by decide) (by decide) (by decide)
  rw [one_c (q := ([49], [51])) (by decide +kernel)] at h
  exact h
theorem k_one56 (w : World) : Calls Tryz.prog 34 #[.int .i64 5, .int .i64 6] w (GiveR w ([53], [54])) := by
  have h := rqone_any (5) 6 w (by decide) (by decide) (by decide) (by decide)
  rw [one_c (q := ([53], [54])) (by decide +kernel)] at h
  exact h
theorem k_onem16 (w : World) : Calls Tryz.prog 34 #[.int .i64 (-1), .int .i64 6] w (GiveR w ([45, 49], [54])) := by
  have h := rqone_any (-1) 6 w (by decide) (by decide) (by decide) (by decide)
  rw [one_c (q := ([45, 49], [54])) (by decide +kernel)] at h
  exact h
theorem k_one16 (w : World) : Calls Tryz.prog 34 #[.int .i64 1, .int .i64 6] w (GiveR w ([49], [54])) := by
  have h := rqone_any (1) 6 w (by decide) (by decide) (by decide) (by decide)
  rw [one_c (q := ([49], [54])) (by decide +kernel)] at h
  exact h
theorem k_one32 (w : World) : Calls Tryz.prog 34 #[.int .i64 3, .int .i64 2] w (GiveR w ([51], [50])) := by
  have h := rqone_any (3) 2 w (by decide) (by decide) (by decide) (by decide)
  rw [one_c (q := ([51], [50])) (by decide +kernel)] at h
  exact h
theorem k_onem72 (w : World) : Calls Tryz.prog 34 #[.int .i64 (-7), .int .i64 2] w (GiveR w ([45, 55], [50])) := by
  have h := rqone_any (-7) 2 w (by decide) (by decide) (by decide) (by decide)
  rw [one_c (q := ([45, 55], [50])) (by decide +kernel)] at h
  exact h
theorem k_onem32 (w : World) : Calls Tryz.prog 34 #[.int .i64 (-3), .int .i64 2] w (GiveR w ([45, 51], [50])) := by
  have h := rqone_any (-3) 2 w (by decide) (by decide) (by decide) (by decide)
  rw [one_c (q := ([45, 51], [50])) (by decide +kernel)] at h
  exact h
theorem k_div (w : World) : Calls Tryz.prog 12 #[.agg #[.string ⟨#[49]⟩, .string ⟨#[50]⟩], .agg #[.string ⟨#[49]⟩, .string ⟨#[51]⟩]] w (GiveRB w (([51], [50]), true)) := by
  have h := qdiv_any ⟨#[49]⟩ ⟨#[50]⟩ ⟨#[49]⟩ ⟨#[51]⟩ w (by decide) (by decide) (by decide) (by decide)
  rw [show divR ((⟨#[49]⟩ : ByteArray).data.toList, (⟨#[50]⟩ : ByteArray).data.toList) ((⟨#[49]⟩ : ByteArray).data.toList, (⟨#[51]⟩ : ByteArray).data.toList) = (([51], [50]), true) from divR_c (by decide +kernel)] at h
  exact h
theorem k_divno (w : World) : Calls Tryz.prog 12 #[.agg #[.string ⟨#[49]⟩, .string ⟨#[50]⟩], .agg #[.string ⟨#[48]⟩, .string ⟨#[49]⟩]] w (GiveRB w (([], []), false)) := by
  have h := qdiv_any ⟨#[49]⟩ ⟨#[50]⟩ ⟨#[48]⟩ ⟨#[49]⟩ w (by decide) (by decide) (by decide) (by decide)
  rw [show divR ((⟨#[49]⟩ : ByteArray).data.toList, (⟨#[50]⟩ : ByteArray).data.toList) ((⟨#[48]⟩ : ByteArray).data.toList, (⟨#[49]⟩ : ByteArray).data.toList) = (([], []), false) from (by unfold divR; rw [show (valR ((⟨#[48]⟩ : ByteArray).data.toList, (⟨#[49]⟩ : ByteArray).data.toList) == 0) = true from by decide +kernel, Bool.not_true, Bool.and_false]; rfl)] at h
  exact h
theorem k_add (w : World) : Calls Tryz.prog 24 #[.agg #[.string ⟨#[49]⟩, .string ⟨#[50]⟩], .agg #[.string ⟨#[49]⟩, .string ⟨#[51]⟩]] w (GiveR w ([53], [54])) := by
  have h := qadd_any ⟨#[49]⟩ ⟨#[50]⟩ ⟨#[49]⟩ ⟨#[51]⟩ w (by decide) (by decide) (by decide) (by decide)
  rw [show addR ((⟨#[49]⟩ : ByteArray).data.toList, (⟨#[50]⟩ : ByteArray).data.toList) ((⟨#[49]⟩ : ByteArray).data.toList, (⟨#[51]⟩ : ByteArray).data.toList) = ([53], [54]) from addR_c (by decide +kernel)] at h
  exact h
theorem k_sub (w : World) : Calls Tryz.prog 26 #[.agg #[.string ⟨#[49]⟩, .string ⟨#[51]⟩], .agg #[.string ⟨#[49]⟩, .string ⟨#[50]⟩]] w (GiveR w ([45, 49], [54])) := by
  have h := qsub_any ⟨#[49]⟩ ⟨#[51]⟩ ⟨#[49]⟩ ⟨#[50]⟩ w (by decide) (by decide) (by decide) (by decide)
  rw [show subR ((⟨#[49]⟩ : ByteArray).data.toList, (⟨#[51]⟩ : ByteArray).data.toList) ((⟨#[49]⟩ : ByteArray).data.toList, (⟨#[50]⟩ : ByteArray).data.toList) = ([45, 49], [54]) from subR_c (by decide +kernel)] at h
  exact h
theorem k_mul (w : World) : Calls Tryz.prog 28 #[.agg #[.string ⟨#[49]⟩, .string ⟨#[50]⟩], .agg #[.string ⟨#[49]⟩, .string ⟨#[51]⟩]] w (GiveR w ([49], [54])) := by
  have h := qmul_any ⟨#[49]⟩ ⟨#[50]⟩ ⟨#[49]⟩ ⟨#[51]⟩ w (by decide) (by decide) (by decide) (by decide)
  rw [show mulR ((⟨#[49]⟩ : ByteArray).data.toList, (⟨#[50]⟩ : ByteArray).data.toList) ((⟨#[49]⟩ : ByteArray).data.toList, (⟨#[51]⟩ : ByteArray).data.toList) = ([49], [54]) from mulR_c (by decide +kernel)] at h
  exact h
theorem k_cmp (w : World) : Calls Tryz.prog 22 #[.agg #[.string ⟨#[49]⟩, .string ⟨#[50]⟩], .agg #[.string ⟨#[49]⟩, .string ⟨#[51]⟩]] w (GiveI w 1) := by
  have h := qcmp_any ⟨#[49]⟩ ⟨#[50]⟩ ⟨#[49]⟩ ⟨#[51]⟩ w (by decide) (by decide) (by decide) (by decide)
  rw [show cmpR ((⟨#[49]⟩ : ByteArray).data.toList, (⟨#[50]⟩ : ByteArray).data.toList) ((⟨#[49]⟩ : ByteArray).data.toList, (⟨#[51]⟩ : ByteArray).data.toList) = 1 from (by decide +kernel)] at h
  exact h
theorem k_split (w : World) : Calls Tryz.prog 14 #[.agg #[.string ⟨#[45, 55]⟩, .string ⟨#[50]⟩]] w (GiveSR w ([45, 52], ([49], [50]))) := by
  have h := qsplit_any ⟨#[45, 55]⟩ ⟨#[50]⟩ w (by decide) (by decide)
  rw [show splitR ((⟨#[45, 55]⟩ : ByteArray).data.toList, (⟨#[50]⟩ : ByteArray).data.toList) = ([45, 52], ([49], [50])) from splitR_c (by decide +kernel)] at h
  exact h
theorem k_neg (w : World) : Calls Tryz.prog 20 #[.agg #[.string ⟨#[49]⟩, .string ⟨#[50]⟩]] w (GiveR w ([45, 49], [50])) := by
  have h := qneg_any ⟨#[49]⟩ ⟨#[50]⟩ w (by decide) (by decide)
  rw [show negR ((⟨#[49]⟩ : ByteArray).data.toList, (⟨#[50]⟩ : ByteArray).data.toList) = ([45, 49], [50]) from negR_c (by decide +kernel)] at h
  exact h
theorem k_sign (w : World) : Calls Tryz.prog 18 #[.agg #[.string ⟨#[45, 49]⟩, .string ⟨#[50]⟩]] w (GiveI w (-1)) := by
  have h := qsign_any ⟨#[45, 49]⟩ ⟨#[50]⟩ w (by decide) (by decide)
  rw [show sgnR ((⟨#[45, 49]⟩ : ByteArray).data.toList, (⟨#[50]⟩ : ByteArray).data.toList) = -1 from (by decide +kernel)] at h
  exact h
theorem k_may0 (w : World) : Calls Tryz.prog 16 #[.agg #[.string ⟨#[48]⟩, .string ⟨#[49]⟩]] w (GiveB w true) := by
  have h := qmay_any ⟨#[48]⟩ ⟨#[49]⟩ w (by decide) (by decide)
  rw [show isR ((⟨#[48]⟩ : ByteArray).data.toList, (⟨#[49]⟩ : ByteArray).data.toList) = true from (by decide)] at h
  exact h
theorem k_maye (w : World) : Calls Tryz.prog 16 #[.agg #[.string ⟨#[]⟩, .string ⟨#[]⟩]] w (GiveB w false) := by
  have h := qmay_any ⟨#[]⟩ ⟨#[]⟩ w (by decide) (by decide)
  rw [show isR ((⟨#[]⟩ : ByteArray).data.toList, (⟨#[]⟩ : ByteArray).data.toList) = false from (by decide)] at h
  exact h
theorem k_may24 (w : World) : Calls Tryz.prog 16 #[.agg #[.string ⟨#[50]⟩, .string ⟨#[52]⟩]] w (GiveB w false) := by
  have h := qmay_any ⟨#[50]⟩ ⟨#[52]⟩ w (by decide) (by decide)
  rw [show isR ((⟨#[50]⟩ : ByteArray).data.toList, (⟨#[52]⟩ : ByteArray).data.toList) = false from (by decide)] at h
  exact h
theorem k_mk64 (w : World) : Calls Tryz.prog 10 #[.string ⟨#[54]⟩, .string ⟨#[45, 52]⟩] w (GiveRB w (([45, 51], [50]), true)) := by
  have h := qmake_any ⟨#[54]⟩ ⟨#[45, 52]⟩ w (by decide) (by decide)
  rw [show makeR (⟨#[54]⟩ : ByteArray).data.toList (⟨#[45, 52]⟩ : ByteArray).data.toList = (([45, 51], [50]), true) from makeR_c (by decide +kernel)] at h
  exact h
theorem k_mk10 (w : World) : Calls Tryz.prog 10 #[.string ⟨#[49]⟩, .string ⟨#[48]⟩] w (GiveRB w (([], []), false)) := by
  have h := qmake_any ⟨#[49]⟩ ⟨#[48]⟩ w (by decide) (by decide)
  rw [show makeR (⟨#[49]⟩ : ByteArray).data.toList (⟨#[48]⟩ : ByteArray).data.toList = (([], []), false) from makeR_no (by decide +kernel)] at h
  exact h
theorem k_of0 (w : World) (ht : GoodT w) : Calls Tryz.prog 31 #[.int .i64 0] w (GiveR w ([48], [49])) := by
  have h := qof_any 0 w (by decide) (by decide) ht
  rw [wd_0] at h
  exact h
set_option maxRecDepth 100000 in
set_option maxHeartbeats 2000000 in
theorem fixed3_any (w : World) (ht : GoodT w) :
    Calls Tryz.prog 9 #[] w (GiveB w true) := by
  go_enter Tryz.func9, Tryz.ntmps9
  have HT := Lib.hid ht; clear ht
  have BW := Below.refl w.heap.size w
  have b0 : Below w.heap.size w w := Below.refl _ _
  go_wp2_with fail
  refine (k_one12 _).mono ?_
  rintro e w1 ⟨rfl, b⟩
  have b1 := Below.more b0 b
  clear b
  go_wp2_with fail
  refine (k_one13 _).mono ?_
  rintro e w2 ⟨rfl, b⟩
  have b2 := Below.more b1 b
  clear b
  go_wp2_with fail
  obtain ⟨U3, hU, bU, s3, h0, h1⟩ := lay b2 (.string ⟨#[49]⟩) (.string ⟨#[50]⟩) 23
  rw [hU]; clear hU
  replace BW := Below.more BW bU
  replace HT := Lib.hid (HT.out.below bU)
  clear bU
  have b3 := Below.refl U3.heap.size U3
  obtain ⟨U4, hU, bU, s4, t0, t1⟩ := lay b3 (.string ⟨#[49]⟩) (.string ⟨#[51]⟩) 23
  rw [hU]; clear hU
  rw [← s3] at t0 t1
  clear s3
  clear s4
  replace h0 := fun v (h : Below U4.heap.size U4 v) => h0 v (Below.more bU h)
  replace h1 := fun v (h : Below U4.heap.size U4 v) => h1 v (Below.more bU h)
  replace BW := Below.more BW bU
  replace HT := Lib.hid (HT.out.below bU)
  clear bU
  have b4 := Below.refl U4.heap.size U4
  refine (k_div _).mono ?_
  rintro e w5 ⟨rfl, b⟩
  have b5 := Below.more b4 b
  clear b
  go_upto_region 3 with fail
  obtain ⟨U6, hU, bU, s6, q0, q1⟩ := lay b5 (.string ⟨#[51]⟩) (.string ⟨#[50]⟩) 23
  rw [hU]; clear hU
  clear s6
  replace h0 := fun v (h : Below U6.heap.size U6 v) => h0 v (Below.more bU h)
  replace h1 := fun v (h : Below U6.heap.size U6 v) => h1 v (Below.more bU h)
  replace t0 := fun v (h : Below U6.heap.size U6 v) => t0 v (Below.more bU h)
  replace t1 := fun v (h : Below U6.heap.size U6 v) => t1 v (Below.more bU h)
  replace BW := Below.more BW bU
  replace HT := Lib.hid (HT.out.below bU)
  clear bU
  have b6 := Below.refl U6.heap.size U6
  have hB := Lib.hid (Nat.le_refl U6.heap.size)
  go_cut [5, 6] from 21 to 26 (fun _ t6 wx => t6 = .bool false ∧ Below U6.heap.size U6 wx)
  case first =>
    first | (go_region_held3 (fun w' => Below U6.heap.size U6 w')
        (first | (exact b6.drew) | (with_reducible assumption) | (exact Below.alloc (by with_reducible assumption) (Nat.le_trans hB.out (Below.size (by with_reducible assumption))) _) | (exact put2 (by with_reducible assumption) (Nat.le_refl _) _ _) | (exact put2 (by with_reducible assumption) hB.out _ _) | (exact put2 (by with_reducible assumption) (Nat.le_trans hB.out (Below.size (by with_reducible assumption))) _ _))
        (first | (go_at_call 31; (with_reducible refine (held (W := U6) hB.out (k_of0 _ (HT.out.below (by assumption))) (by assumption)).mono ?_); rintro e w'' ⟨rfl, hb, hw⟩; (first | (have hz := zc_made0 hb) | (have hz := zc_made hb) | skip); (try have hz := Zc.below (by assumption) hb); (try (have z0 := hz.c0; have z1 := hz.c1; have z2 := hz.f0; have z3 := hz.f1))) | (go_at_call 12; (with_reducible refine (held (W := U6) hB.out (k_divno _) (by assumption)).mono ?_); rintro e w'' ⟨rfl, hb, hw⟩; (first | (have hz := zc_made0 hb) | (have hz := zc_made hb) | skip); (try have hz := Zc.below (by assumption) hb); (try (have z0 := hz.c0; have z1 := hz.c1; have z2 := hz.f0; have z3 := hz.f1))))) | fail
    all_goals (go_wp2_with fail)
    all_goals (go_meet)
    all_goals (exact ⟨rfl, by assumption⟩)
  case rest =>
    obtain ⟨rfl, hc⟩ := hcut
    clear hB
    go_wp2_with fail
    refine (k_onem72 _).mono ?_
    rintro e w7 ⟨rfl, b⟩
    have b7 := Below.more hc b
    clear b
    go_wp2_with fail
    refine (k_split _).mono ?_
    rintro e w8 ⟨rfl, b⟩
    have b8 := Below.more b7 b
    clear b
    go_wp2_with fail
    obtain ⟨U9, hU, bU, s9, f0, f1⟩ := lay b8 (.string ⟨#[49]⟩) (.string ⟨#[50]⟩) 23
    rw [hU]; clear hU
    clear s9
    replace h0 := fun v (h : Below U9.heap.size U9 v) => h0 v (Below.more bU h)
    replace h1 := fun v (h : Below U9.heap.size U9 v) => h1 v (Below.more bU h)
    replace t0 := fun v (h : Below U9.heap.size U9 v) => t0 v (Below.more bU h)
    replace t1 := fun v (h : Below U9.heap.size U9 v) => t1 v (Below.more bU h)
    replace q0 := fun v (h : Below U9.heap.size U9 v) => q0 v (Below.more bU h)
    replace q1 := fun v (h : Below U9.heap.size U9 v) => q1 v (Below.more bU h)
    replace BW := Below.more BW bU
    replace HT := Lib.hid (HT.out.below bU)
    clear bU
    have b9 := Below.refl U9.heap.size U9
    refine (k_mk64 _).mono ?_
    rintro e w10 ⟨rfl, b⟩
    have b10 := Below.more b9 b
    clear b
    go_wp2_with fail
    obtain ⟨U11, hU, bU, s11, m0, m1⟩ := lay b10 (.string ⟨#[45, 51]⟩) (.string ⟨#[50]⟩) 23
    rw [hU]; clear hU
    clear s11
    replace h0 := fun v (h : Below U11.heap.size U11 v) => h0 v (Below.more bU h)
    replace h1 := fun v (h : Below U11.heap.size U11 v) => h1 v (Below.more bU h)
    replace t0 := fun v (h : Below U11.heap.size U11 v) => t0 v (Below.more bU h)
    replace t1 := fun v (h : Below U11.heap.size U11 v) => t1 v (Below.more bU h)
    replace q0 := fun v (h : Below U11.heap.size U11 v) => q0 v (Below.more bU h)
    replace q1 := fun v (h : Below U11.heap.size U11 v) => q1 v (Below.more bU h)
    replace f0 := fun v (h : Below U11.heap.size U11 v) => f0 v (Below.more bU h)
    replace f1 := fun v (h : Below U11.heap.size U11 v) => f1 v (Below.more bU h)
    replace BW := Below.more BW bU
    replace HT := Lib.hid (HT.out.below bU)
    clear bU
    have b11 := Below.refl U11.heap.size U11
    refine (k_mk10 _).mono ?_
    rintro e w12 ⟨rfl, b⟩
    have b12 := Below.more b11 b
    clear b
    go_wp2_with fail
    obtain ⟨U13, hU, bU, s13, z0, z1⟩ := lay b12 (.string ⟨#[]⟩) (.string ⟨#[]⟩) 23
    rw [hU]; clear hU
    clear s13
    replace h0 := fun v (h : Below U13.heap.size U13 v) => h0 v (Below.more bU h)
    replace h1 := fun v (h : Below U13.heap.size U13 v) => h1 v (Below.more bU h)
    replace t0 := fun v (h : Below U13.heap.size U13 v) => t0 v (Below.more bU h)
    replace t1 := fun v (h : Below U13.heap.size U13 v) => t1 v (Below.more bU h)
    replace q0 := fun v (h : Below U13.heap.size U13 v) => q0 v (Below.more bU h)
    replace q1 := fun v (h : Below U13.heap.size U13 v) => q1 v (Below.more bU h)
    replace f0 := fun v (h : Below U13.heap.size U13 v) => f0 v (Below.more bU h)
    replace f1 := fun v (h : Below U13.heap.size U13 v) => f1 v (Below.more bU h)
    replace m0 := fun v (h : Below U13.heap.size U13 v) => m0 v (Below.more bU h)
    replace m1 := fun v (h : Below U13.heap.size U13 v) => m1 v (Below.more bU h)
    replace BW := Below.more BW bU
    replace HT := Lib.hid (HT.out.below bU)
    clear bU
    have b13 := Below.refl U13.heap.size U13
    have hB := Lib.hid (Nat.le_refl U13.heap.size)
    simp only [List.append_eq, List.cons_append, List.nil_append]
    first | (go_region_held3 (fun w' => Below U13.heap.size U13 w')
        (first | (exact b13.drew) | (with_reducible assumption) | (exact Below.alloc (by with_reducible assumption) (Nat.le_trans hB.out (Below.size (by with_reducible assumption))) _) | (exact put2 (by with_reducible assumption) (Nat.le_refl _) _ _) | (exact put2 (by with_reducible assumption) hB.out _ _) | (exact put2 (by with_reducible assumption) (Nat.le_trans hB.out (Below.size (by with_reducible assumption))) _ _))
        (first | (go_at_call 24; (with_reducible refine (held (W := U13) hB.out (k_add _) (by assumption)).mono ?_); rintro e w'' ⟨rfl, hb, hw⟩; (first | (have hz := zc_made0 hb) | (have hz := zc_made hb) | skip); (try have hz := Zc.below (by assumption) hb); (try (have z0 := hz.c0; have z1 := hz.c1; have z2 := hz.f0; have z3 := hz.f1))) | (go_at_call 26; (with_reducible refine (held (W := U13) hB.out (k_sub _) (by assumption)).mono ?_); rintro e w'' ⟨rfl, hb, hw⟩; (first | (have hz := zc_made0 hb) | (have hz := zc_made hb) | skip); (try have hz := Zc.below (by assumption) hb); (try (have z0 := hz.c0; have z1 := hz.c1; have z2 := hz.f0; have z3 := hz.f1))) | (go_at_call 28; (with_reducible refine (held (W := U13) hB.out (k_mul _) (by assumption)).mono ?_); rintro e w'' ⟨rfl, hb, hw⟩; (first | (have hz := zc_made0 hb) | (have hz := zc_made hb) | skip); (try have hz := Zc.below (by assumption) hb); (try (have z0 := hz.c0; have z1 := hz.c1; have z2 := hz.f0; have z3 := hz.f1))) | (go_at_call 22; (with_reducible refine (held (W := U13) hB.out (k_cmp _) (by assumption)).mono ?_); rintro e w'' ⟨rfl, hb, hw⟩; (first | (have hz := zc_made0 hb) | (have hz := zc_made hb) | skip); (try have hz := Zc.below (by assumption) hb); (try (have z0 := hz.c0; have z1 := hz.c1; have z2 := hz.f0; have z3 := hz.f1))) | (go_at_call 20; (with_reducible refine (held (W := U13) hB.out (k_neg _) (by assumption)).mono ?_); rintro e w'' ⟨rfl, hb, hw⟩; (first | (have hz := zc_made0 hb) | (have hz := zc_made hb) | skip); (try have hz := Zc.below (by assumption) hb); (try (have z0 := hz.c0; have z1 := hz.c1; have z2 := hz.f0; have z3 := hz.f1))) | (go_at_call 18; (with_reducible refine (held (W := U13) hB.out (k_sign _) (by assumption)).mono ?_); rintro e w'' ⟨rfl, hb, hw⟩; (first | (have hz := zc_made0 hb) | (have hz := zc_made hb) | skip); (try have hz := Zc.below (by assumption) hb); (try (have z0 := hz.c0; have z1 := hz.c1; have z2 := hz.f0; have z3 := hz.f1))) | (go_at_call 31; (with_reducible refine (held (W := U13) hB.out (k_of0 _ (HT.out.below (by assumption))) (by assumption)).mono ?_); rintro e w'' ⟨rfl, hb, hw⟩; (first | (have hz := zc_made0 hb) | (have hz := zc_made hb) | skip); (try have hz := Zc.below (by assumption) hb); (try (have z0 := hz.c0; have z1 := hz.c1; have z2 := hz.f0; have z3 := hz.f1))) | (go_at_call 34; (with_reducible show Calls _ _ #[.int .i64 5, .int .i64 6] _ _); (with_reducible refine (held (W := U13) hB.out (k_one56 _) (by assumption)).mono ?_); rintro e w'' ⟨rfl, hb, hw⟩; (first | (have hz := zc_made0 hb) | (have hz := zc_made hb) | skip); (try have hz := Zc.below (by assumption) hb); (try (have z0 := hz.c0; have z1 := hz.c1; have z2 := hz.f0; have z3 := hz.f1))) | (go_at_call 34; (with_reducible show Calls _ _ #[.int .i64 (-1), .int .i64 6] _ _); (with_reducible refine (held (W := U13) hB.out (k_onem16 _) (by assumption)).mono ?_); rintro e w'' ⟨rfl, hb, hw⟩; (first | (have hz := zc_made0 hb) | (have hz := zc_made hb) | skip); (try have hz := Zc.below (by assumption) hb); (try (have z0 := hz.c0; have z1 := hz.c1; have z2 := hz.f0; have z3 := hz.f1))) | (go_at_call 34; (with_reducible show Calls _ _ #[.int .i64 1, .int .i64 6] _ _); (with_reducible refine (held (W := U13) hB.out (k_one16 _) (by assumption)).mono ?_); rintro e w'' ⟨rfl, hb, hw⟩; (first | (have hz := zc_made0 hb) | (have hz := zc_made hb) | skip); (try have hz := Zc.below (by assumption) hb); (try (have z0 := hz.c0; have z1 := hz.c1; have z2 := hz.f0; have z3 := hz.f1))) | (go_at_call 34; (with_reducible show Calls _ _ #[.int .i64 3, .int .i64 2] _ _); (with_reducible refine (held (W := U13) hB.out (k_one32 _) (by assumption)).mono ?_); rintro e w'' ⟨rfl, hb, hw⟩; (first | (have hz := zc_made0 hb) | (have hz := zc_made hb) | skip); (try have hz := Zc.below (by assumption) hb); (try (have z0 := hz.c0; have z1 := hz.c1; have z2 := hz.f0; have z3 := hz.f1))) | (go_at_call 34; (with_reducible show Calls _ _ #[.int .i64 (-3), .int .i64 2] _ _); (with_reducible refine (held (W := U13) hB.out (k_onem32 _) (by assumption)).mono ?_); rintro e w'' ⟨rfl, hb, hw⟩; (first | (have hz := zc_made0 hb) | (have hz := zc_made hb) | skip); (try have hz := Zc.below (by assumption) hb); (try (have z0 := hz.c0; have z1 := hz.c1; have z2 := hz.f0; have z3 := hz.f1))) | (go_at_call 16; (with_reducible show Calls _ _ #[.agg #[.string ⟨#[48]⟩, .string ⟨#[49]⟩]] _ _); (with_reducible refine (held (W := U13) hB.out (k_may0 _) (by assumption)).mono ?_); rintro e w'' ⟨rfl, hb, hw⟩; (first | (have hz := zc_made0 hb) | (have hz := zc_made hb) | skip); (try have hz := Zc.below (by assumption) hb); (try (have z0 := hz.c0; have z1 := hz.c1; have z2 := hz.f0; have z3 := hz.f1))) | (go_at_call 16; (with_reducible show Calls _ _ #[.agg #[.string ⟨#[]⟩, .string ⟨#[]⟩]] _ _); (with_reducible refine (held (W := U13) hB.out (k_maye _) (by assumption)).mono ?_); rintro e w'' ⟨rfl, hb, hw⟩; (first | (have hz := zc_made0 hb) | (have hz := zc_made hb) | skip); (try have hz := Zc.below (by assumption) hb); (try (have z0 := hz.c0; have z1 := hz.c1; have z2 := hz.f0; have z3 := hz.f1))) | (go_at_call 16; (with_reducible show Calls _ _ #[.agg #[.string ⟨#[50]⟩, .string ⟨#[52]⟩]] _ _); (with_reducible refine (held (W := U13) hB.out (k_may24 _) (by assumption)).mono ?_); rintro e w'' ⟨rfl, hb, hw⟩; (first | (have hz := zc_made0 hb) | (have hz := zc_made hb) | skip); (try have hz := Zc.below (by assumption) hb); (try (have z0 := hz.c0; have z1 := hz.c1; have z2 := hz.f0; have z3 := hz.f1))))) | fail
    go_wp2_with fail
    go_ret
    exact ⟨rfl, Below.more BW (by assumption)⟩
end Go.Proofs.YtniobjninbodgaaGreatDoor
