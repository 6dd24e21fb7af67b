/- The fixed calls at the head of each statement of layer 4. -/
import Derived.Deep.CutRange
import Derived.Test.YtdibnolbichbmaaGreatDoorAllDec6
namespace Go.Proofs.YtdibnolbichbmaaGreatDoor
open Go.RowKit

theorem kd_38 (w : World) : Calls Tryz.prog 23 #[.int .i64 3, .int .i64 8] w (GiveR w ([51], [56])) := by
  have h := rqone_any (3) 8 w (by decide) (by decide) (by decide) (by decide)
  rw [one_c (q := ([51], [56])) (by decide +kernel)] at h
  exact h
theorem kd_13 (w : World) : Calls Tryz.prog 23 #[.int .i64 1, .int .i64 3] w (GiveR w ([49], [51])) := by
  have h := rqone_any (1) 3 w (by decide) (by decide) (by decide) (by decide)
  rw [one_c (q := ([49], [51])) (by decide +kernel)] at h
  exact h
theorem kd_m252 (w : World) : Calls Tryz.prog 23 #[.int .i64 (-25), .int .i64 2] w (GiveR w ([45, 50, 53], [50])) := by
  have h := rqone_any (-25) 2 w (by decide) (by decide) (by decide) (by decide)
  rw [one_c (q := ([45, 50, 53], [50])) (by decide +kernel)] at h
  exact h
theorem kd_m1200 (w : World) : Calls Tryz.prog 23 #[.int .i64 (-1), .int .i64 200] w (GiveR w ([45, 49], [50, 48, 48])) := by
  have h := rqone_any (-1) 200 w (by decide) (by decide) (by decide) (by decide)
  rw [one_c (q := ([45, 49], [50, 48, 48])) (by decide +kernel)] at h
  exact h
theorem kd_p1 (w : World) (hg : GoodD w) : Calls Tryz.prog 10 #[.string ⟨#[45, 49, 50, 46, 53, 48]⟩] w (GiveRE w (([45, 50, 53], [50]), 0)) := by
  have h := parse_any ⟨#[45, 49, 50, 46, 53, 48]⟩ w (by decide) hg
  rw [show parS (⟨#[45, 49, 50, 46, 53, 48]⟩ : ByteArray).data.toList = (([45, 50, 53], [50]), 0) from parS_c (by decide +kernel)] at h
  exact h
theorem kd_p2 (w : World) (hg : GoodD w) : Calls Tryz.prog 10 #[.string ⟨#[50, 47, 54]⟩] w (GiveRE w (([49], [51]), 0)) := by
  have h := parse_any ⟨#[50, 47, 54]⟩ w (by decide) hg
  rw [show parS (⟨#[50, 47, 54]⟩ : ByteArray).data.toList = (([49], [51]), 0) from parS_c (by decide +kernel)] at h
  exact h
theorem kd_p3 (w : World) (hg : GoodD w) : Calls Tryz.prog 10 #[.string ⟨#[45, 48, 48, 48]⟩] w (GiveRE w (([48], [49]), 0)) := by
  have h := parse_any ⟨#[45, 48, 48, 48]⟩ w (by decide) hg
  rw [show parS (⟨#[45, 48, 48, 48]⟩ : ByteArray).data.toList = (([48], [49]), 0) from parS_c (by decide +kernel)] at h
  exact h
theorem kd_p4 (w : World) (hg : GoodD w) : Calls Tryz.prog 10 #[.string ⟨#[49, 46]⟩] w (GiveRE w (([], []), 40)) := by
  have h := parse_any ⟨#[49, 46]⟩ w (by decide) hg
  rw [show parS (⟨#[49, 46]⟩ : ByteArray).data.toList = (([], []), 40) from parS_c0 (by decide +kernel)] at h
  exact h
theorem kd_p5 (w : World) (hg : GoodD w) : Calls Tryz.prog 10 #[.string ⟨#[49, 47, 48]⟩] w (GiveRE w (([], []), 40)) := by
  have h := parse_any ⟨#[49, 47, 48]⟩ w (by decide) hg
  rw [show parS (⟨#[49, 47, 48]⟩ : ByteArray).data.toList = (([], []), 40) from parS_c0 (by decide +kernel)] at h
  exact h
theorem kd_t1 (w : World) (hg : GoodD w) : Calls Tryz.prog 14 #[.agg #[.string ⟨#[45, 50, 53]⟩, .string ⟨#[50]⟩]] w (GiveS w [45, 49, 50, 46, 53]) := by
  have h := print_any ⟨#[45, 50, 53]⟩ ⟨#[50]⟩ w (by decide) (by decide) hg
  rw [show prS ((⟨#[45, 50, 53]⟩ : ByteArray).data.toList, (⟨#[50]⟩ : ByteArray).data.toList) = [45, 49, 50, 46, 53] from prS_c 1 0 (m := [49, 50, 53]) (by decide +kernel)] at h
  exact h
theorem kd_t2 (w : World) (hg : GoodD w) : Calls Tryz.prog 14 #[.agg #[.string ⟨#[49]⟩, .string ⟨#[51]⟩]] w (GiveS w [49, 47, 51]) := by
  have h := print_any ⟨#[49]⟩ ⟨#[51]⟩ w (by decide) (by decide) hg
  rw [show prS ((⟨#[49]⟩ : ByteArray).data.toList, (⟨#[51]⟩ : ByteArray).data.toList) = [49, 47, 51] from prS_c0 (by decide) (plS_c0 (p := ([49], [51])) 0 0 3 (by decide +kernel)).2 rfl] at h
  exact h
theorem kd_t3 (w : World) (hg : GoodD w) : Calls Tryz.prog 14 #[.agg #[.string ⟨#[45, 49]⟩, .string ⟨#[50, 48, 48]⟩]] w (GiveS w [45, 48, 46, 48, 48, 53]) := by
  have h := print_any ⟨#[45, 49]⟩ ⟨#[50, 48, 48]⟩ w (by decide) (by decide) hg
  rw [show prS ((⟨#[45, 49]⟩ : ByteArray).data.toList, (⟨#[50, 48, 48]⟩ : ByteArray).data.toList) = [45, 48, 46, 48, 48, 53] from prS_c 3 2 (m := [53]) (by decide +kernel)] at h
  exact h
theorem kd_t4 (w : World) (hg : GoodD w) : Calls Tryz.prog 14 #[.agg #[.string ⟨#[]⟩, .string ⟨#[]⟩]] w (GiveS w []) := by
  have h := print_any ⟨#[]⟩ ⟨#[]⟩ w (by decide) (by decide) hg
  rw [show prS ((⟨#[]⟩ : ByteArray).data.toList, (⟨#[]⟩ : ByteArray).data.toList) = [] from prS_no rfl] at h
  exact h
theorem kd_q1 (w : World) (hg : GoodD w) : Calls Tryz.prog 12 #[.agg #[.string ⟨#[51]⟩, .string ⟨#[56]⟩]] w (GiveIB w (3, true)) := by
  have h := places_any ⟨#[51]⟩ ⟨#[56]⟩ w (by decide) (by decide) hg
  rw [show plS ((⟨#[51]⟩ : ByteArray).data.toList, (⟨#[56]⟩ : ByteArray).data.toList) = (3, true) from plS_c (p := ([51], [56])) 3 0 (by decide +kernel)] at h
  exact h
theorem kd_q2 (w : World) (hg : GoodD w) : Calls Tryz.prog 12 #[.agg #[.string ⟨#[49]⟩, .string ⟨#[51]⟩]] w (GiveIB w (0, false)) := by
  have h := places_any ⟨#[49]⟩ ⟨#[51]⟩ w (by decide) (by decide) hg
  rw [show plS ((⟨#[49]⟩ : ByteArray).data.toList, (⟨#[51]⟩ : ByteArray).data.toList) = (0, false) from (plS_c0 (p := ([49], [51])) 0 0 3 (by decide +kernel)).1] at h
  exact h
theorem kd_of0 (w : World) : Calls Tryz.prog 22 #[.int .i64 0] w (GiveR w ([48], [49])) := by
  have h := rqof_any 0 w (by decide) (by decide)
  rw [wd_0] at h
  exact h
set_option maxRecDepth 100000 in
set_option maxHeartbeats 4000000 in
theorem fixed4_any (w : World) (ht : GoodD w) :
    Calls Tryz.prog 9 #[] w (GiveB w true) := by
  have HT := Lib.hid ht; clear ht
  go_enter Tryz.func9, Tryz.ntmps9
  have BW := Below.refl w.heap.size w
  have b0 : Below w.heap.size w w := Below.refl _ _
  go_wp2_with fail
  refine (kd_p1 _ (HT.out.below b0)).mono ?_
  rintro e w1 ⟨rfl, b⟩
  have b1 := Below.more b0 b
  clear b
  go_wp2_with fail
  obtain ⟨U2, hU, bU, s2, rx0, rx1⟩ := lay b1 (.string ⟨#[45, 50, 53]⟩) (.string ⟨#[50]⟩) 23
  rw [hU]; clear hU
  clear s2
  replace BW := Below.more BW bU
  replace HT := Lib.hid (HT.out.below bU)
  clear bU
  have b2 := Below.refl U2.heap.size U2
  refine (kd_p2 _ (HT.out.below b2)).mono ?_
  rintro e w3 ⟨rfl, b⟩
  have b3 := Below.more b2 b
  clear b
  go_wp2_with fail
  obtain ⟨U4, hU, bU, s4, ry0, ry1⟩ := lay b3 (.string ⟨#[49]⟩) (.string ⟨#[51]⟩) 23
  rw [hU]; clear hU
  clear s4
  replace rx0 := fun v (h : Below U4.heap.size U4 v) => rx0 v (Below.more bU h)
  replace rx1 := fun v (h : Below U4.heap.size U4 v) => rx1 v (Below.more bU h)
  replace BW := Below.more BW bU
  replace HT := Lib.hid (HT.out.below bU)
  clear bU
  have b4 := Below.refl U4.heap.size U4
  refine (kd_p3 _ (HT.out.below b4)).mono ?_
  rintro e w5 ⟨rfl, b⟩
  have b5 := Below.more b4 b
  clear b
  go_wp2_with fail
  obtain ⟨U6, hU, bU, s6, rz0, rz1⟩ := lay b5 (.string ⟨#[48]⟩) (.string ⟨#[49]⟩) 23
  rw [hU]; clear hU
  clear s6
  replace rx0 := fun v (h : Below U6.heap.size U6 v) => rx0 v (Below.more bU h)
  replace rx1 := fun v (h : Below U6.heap.size U6 v) => rx1 v (Below.more bU h)
  replace ry0 := fun v (h : Below U6.heap.size U6 v) => ry0 v (Below.more bU h)
  replace ry1 := fun v (h : Below U6.heap.size U6 v) => ry1 v (Below.more bU h)
  replace BW := Below.more BW bU
  replace HT := Lib.hid (HT.out.below bU)
  clear bU
  have b6 := Below.refl U6.heap.size U6
  refine (kd_p4 _ (HT.out.below b6)).mono ?_
  rintro e w7 ⟨rfl, b⟩
  have b7 := Below.more b6 b
  clear b
  go_wp2_with fail
  obtain ⟨U8, hU, bU, s8, rh0, rh1⟩ := lay b7 (.string ⟨#[]⟩) (.string ⟨#[]⟩) 23
  rw [hU]; clear hU
  clear s8
  replace rx0 := fun v (h : Below U8.heap.size U8 v) => rx0 v (Below.more bU h)
  replace rx1 := fun v (h : Below U8.heap.size U8 v) => rx1 v (Below.more bU h)
  replace ry0 := fun v (h : Below U8.heap.size U8 v) => ry0 v (Below.more bU h)
  replace ry1 := fun v (h : Below U8.heap.size U8 v) => ry1 v (Below.more bU h)
  replace rz0 := fun v (h : Below U8.heap.size U8 v) => rz0 v (Below.more bU h)
  replace rz1 := fun v (h : Below U8.heap.size U8 v) => rz1 v (Below.more bU h)
  replace BW := Below.more BW bU
  replace HT := Lib.hid (HT.out.below bU)
  clear bU
  have b8 := Below.refl U8.heap.size U8
  refine (kd_p5 _ (HT.out.below b8)).mono ?_
  rintro e w9 ⟨rfl, b⟩
  have b9 := Below.more b8 b
  clear b
  go_wp2_with fail
  obtain ⟨U10, hU, bU, s10, ri0, ri1⟩ := lay b9 (.string ⟨#[]⟩) (.string ⟨#[]⟩) 23
  rw [hU]; clear hU
  clear s10
  replace rx0 := fun v (h : Below U10.heap.size U10 v) => rx0 v (Below.more bU h)
  replace rx1 := fun v (h : Below U10.heap.size U10 v) => rx1 v (Below.more bU h)
  replace ry0 := fun v (h : Below U10.heap.size U10 v) => ry0 v (Below.more bU h)
  replace ry1 := fun v (h : Below U10.heap.size U10 v) => ry1 v (Below.more bU h)
  replace rz0 := fun v (h : Below U10.heap.size U10 v) => rz0 v (Below.more bU h)
  replace rz1 := fun v (h : Below U10.heap.size U10 v) => rz1 v (Below.more bU h)
  replace rh0 := fun v (h : Below U10.heap.size U10 v) => rh0 v (Below.more bU h)
  replace rh1 := fun v (h : Below U10.heap.size U10 v) => rh1 v (Below.more bU h)
  replace BW := Below.more BW bU
  replace HT := Lib.hid (HT.out.below bU)
  clear bU
  have b10 := Below.refl U10.heap.size U10
  refine (kd_38 _).mono ?_
  rintro e w11 ⟨rfl, b⟩
  have b11 := Below.more b10 b
  clear b
  go_wp2_with fail
  refine (kd_q1 _ (HT.out.below b11)).mono ?_
  rintro e w12 ⟨rfl, b⟩
  have b12 := Below.more b11 b
  clear b
  go_wp2_with fail
  refine (kd_13 _).mono ?_
  rintro e w13 ⟨rfl, b⟩
  have b13 := Below.more b12 b
  clear b
  go_wp2_with fail
  refine (kd_q2 _ (HT.out.below b13)).mono ?_
  rintro e w14 ⟨rfl, b⟩
  have b14 := Below.more b13 b
  clear b
  go_wp2_with fail
  try simp only [List.append_eq, List.cons_append, List.nil_append]
  have hB := Lib.hid (Nat.le_refl U10.heap.size)
  first | (go_region_held3 (fun w' => Below U10.heap.size U10 w')
      (first | (exact b14.drew) | (with_reducible assumption) | (exact Below.alloc (by with_reducible assumption) (Nat.le_trans hB.out (Below.size (by with_reducible assumption))) _) | (exact put2 (by with_reducible assumption) (Nat.le_refl _) _ _) | (exact put2 (by with_reducible assumption) hB.out _ _) | (exact put2 (by with_reducible assumption) (Nat.le_trans hB.out (Below.size (by with_reducible assumption))) _ _))
      (first | (go_at_call 23; (with_reducible show Calls _ _ #[.int .i64 (-25), .int .i64 2] _ _); (with_reducible refine (held (W := U10) hB.out (kd_m252 _) (by assumption)).mono ?_); rintro e w'' ⟨rfl, hb, hw⟩; (first | (have hz := zc_made0 hb) | (have hz := zc_made hb) | skip); (try have hz := Zc.below (by assumption) hb); (try (have z0 := hz.c0; have z1 := hz.c1; have z2 := hz.f0; have z3 := hz.f1))) | (go_at_call 23; (with_reducible show Calls _ _ #[.int .i64 1, .int .i64 3] _ _); (with_reducible refine (held (W := U10) hB.out (kd_13 _) (by assumption)).mono ?_); rintro e w'' ⟨rfl, hb, hw⟩; (first | (have hz := zc_made0 hb) | (have hz := zc_made hb) | skip); (try have hz := Zc.below (by assumption) hb); (try (have z0 := hz.c0; have z1 := hz.c1; have z2 := hz.f0; have z3 := hz.f1))) | (go_at_call 23; (with_reducible show Calls _ _ #[.int .i64 (-1), .int .i64 200] _ _); (with_reducible refine (held (W := U10) hB.out (kd_m1200 _) (by assumption)).mono ?_); rintro e w'' ⟨rfl, hb, hw⟩; (first | (have hz := zc_made0 hb) | (have hz := zc_made hb) | skip); (try have hz := Zc.below (by assumption) hb); (try (have z0 := hz.c0; have z1 := hz.c1; have z2 := hz.f0; have z3 := hz.f1))) | (go_at_call 14; (with_reducible show Calls _ _ #[.agg #[.string ⟨#[45, 50, 53]⟩, .string ⟨#[50]⟩]] _ _); (with_reducible refine (held (W := U10) hB.out (kd_t1 _ (HT.out.below (by assumption))) (by assumption)).mono ?_); rintro e w'' ⟨rfl, hb, hw⟩; (first | (have hz := zc_made0 hb) | (have hz := zc_made hb) | skip); (try have hz := Zc.below (by assumption) hb); (try (have z0 := hz.c0; have z1 := hz.c1; have z2 := hz.f0; have z3 := hz.f1))) | (go_at_call 14; (with_reducible show Calls _ _ #[.agg #[.string ⟨#[49]⟩, .string ⟨#[51]⟩]] _ _); (with_reducible refine (held (W := U10) hB.out (kd_t2 _ (HT.out.below (by assumption))) (by assumption)).mono ?_); rintro e w'' ⟨rfl, hb, hw⟩; (first | (have hz := zc_made0 hb) | (have hz := zc_made hb) | skip); (try have hz := Zc.below (by assumption) hb); (try (have z0 := hz.c0; have z1 := hz.c1; have z2 := hz.f0; have z3 := hz.f1))) | (go_at_call 14; (with_reducible show Calls _ _ #[.agg #[.string ⟨#[45, 49]⟩, .string ⟨#[50, 48, 48]⟩]] _ _); (with_reducible refine (held (W := U10) hB.out (kd_t3 _ (HT.out.below (by assumption))) (by assumption)).mono ?_); rintro e w'' ⟨rfl, hb, hw⟩; (first | (have hz := zc_made0 hb) | (have hz := zc_made hb) | skip); (try have hz := Zc.below (by assumption) hb); (try (have z0 := hz.c0; have z1 := hz.c1; have z2 := hz.f0; have z3 := hz.f1))) | (go_at_call 14; (with_reducible show Calls _ _ #[.agg #[.string ⟨#[]⟩, .string ⟨#[]⟩]] _ _); (with_reducible refine (held (W := U10) hB.out (kd_t4 _ (HT.out.below (by assumption))) (by assumption)).mono ?_); rintro e w'' ⟨rfl, hb, hw⟩; (first | (have hz := zc_made0 hb) | (have hz := zc_made hb) | skip); (try have hz := Zc.below (by assumption) hb); (try (have z0 := hz.c0; have z1 := hz.c1; have z2 := hz.f0; have z3 := hz.f1))) | (go_at_call 22; (with_reducible refine (held (W := U10) hB.out (kd_of0 _) (by assumption)).mono ?_); rintro e w'' ⟨rfl, hb, hw⟩; (first | (have hz := zc_made0 hb) | (have hz := zc_made hb) | skip); (try have hz := Zc.below (by assumption) hb); (try (have z0 := hz.c0; have z1 := hz.c1; have z2 := hz.f0; have z3 := hz.f1))))) | fail
  rename_i hH
  have b15 := hH
  clear hH hB
  go_wp2_with fail
  go_ret
  exact ⟨rfl, Below.more BW b15⟩
end Go.Proofs.YtdibnolbichbmaaGreatDoor
