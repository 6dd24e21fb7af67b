/- The fixed calls at the head of each statement of layer 5. -/
import Derived.Test.YtnahepfnejdcgaaGreatDoorGridApi
namespace Go.Proofs.YtnahepfnejdcgaaGreatDoor
open Go.RowKit

theorem kg_52 (w : World) : Calls Tryz.prog 25 #[.int .i64 5, .int .i64 2] w (GiveR w ([53], [50])) := by
  have h := rqone_any (5) 2 w (by decide) (by decide) (by decide) (by decide)
  rw [one_c (q := ([53], [50])) (by decide +kernel)] at h
  exact h
theorem kg_72 (w : World) : Calls Tryz.prog 25 #[.int .i64 7, .int .i64 2] w (GiveR w ([55], [50])) := by
  have h := rqone_any (7) 2 w (by decide) (by decide) (by decide) (by decide)
  rw [one_c (q := ([55], [50])) (by decide +kernel)] at h
  exact h
theorem kg_m52 (w : World) : Calls Tryz.prog 25 #[.int .i64 (-5), .int .i64 2] w (GiveR w ([45, 53], [50])) := by
  have h := rqone_any (-5) 2 w (by decide) (by decide) (by decide) (by decide)
  rw [one_c (q := ([45, 53], [50])) (by decide +kernel)] at h
  exact h
theorem kg_m72 (w : World) : Calls Tryz.prog 25 #[.int .i64 (-7), .int .i64 2] w (GiveR w ([45, 55], [50])) := by
  have h := rqone_any (-7) 2 w (by decide) (by decide) (by decide) (by decide)
  rw [one_c (q := ([45, 55], [50])) (by decide +kernel)] at h
  exact h
theorem kg_1710 (w : World) : Calls Tryz.prog 25 #[.int .i64 17, .int .i64 10] w (GiveR w ([49, 55], [49, 48])) := by
  have h := rqone_any (17) 10 w (by decide) (by decide) (by decide) (by decide)
  rw [one_c (q := ([49, 55], [49, 48])) (by decide +kernel)] at h
  exact h
theorem kg_12 (w : World) : Calls Tryz.prog 25 #[.int .i64 1, .int .i64 2] w (GiveR w ([49], [50])) := by
  have h := rqone_any (1) 2 w (by decide) (by decide) (by decide) (by decide)
  rw [one_c (q := ([49], [50])) (by decide +kernel)] at h
  exact h
theorem kg_32 (w : World) : Calls Tryz.prog 25 #[.int .i64 3, .int .i64 2] w (GiveR w ([51], [50])) := by
  have h := rqone_any (3) 2 w (by decide) (by decide) (by decide) (by decide)
  rw [one_c (q := ([51], [50])) (by decide +kernel)] at h
  exact h
theorem kg_13 (w : World) : Calls Tryz.prog 25 #[.int .i64 1, .int .i64 3] w (GiveR w ([49], [51])) := by
  have h := rqone_any (1) 3 w (by decide) (by decide) (by decide) (by decide)
  rw [one_c (q := ([49], [51])) (by decide +kernel)] at h
  exact h
theorem kg_33 (w : World) : Calls Tryz.prog 25 #[.int .i64 33, .int .i64 100] w (GiveR w ([51, 51], [49, 48, 48])) := by
  have h := rqone_any (33) 100 w (by decide) (by decide) (by decide) (by decide)
  rw [one_c (q := ([51, 51], [49, 48, 48])) (by decide +kernel)] at h
  exact h
theorem kg_w1 (w : World) (hg : GoodG w) : Calls Tryz.prog 9 #[.agg #[.string ⟨#[53]⟩, .string ⟨#[50]⟩], .int .i64 2] w (GiveS w [50]) := by
  have h := gwhole_any ⟨#[53]⟩ ⟨#[50]⟩ 2 w (by decide) (by decide) hg
  rw [show whS ((⟨#[53]⟩ : ByteArray).data.toList, (⟨#[50]⟩ : ByteArray).data.toList) 2 = [50] from whS_c (m := 2) (by decide +kernel)] at h
  exact h
theorem kg_w2 (w : World) (hg : GoodG w) : Calls Tryz.prog 9 #[.agg #[.string ⟨#[55]⟩, .string ⟨#[50]⟩], .int .i64 2] w (GiveS w [52]) := by
  have h := gwhole_any ⟨#[55]⟩ ⟨#[50]⟩ 2 w (by decide) (by decide) hg
  rw [show whS ((⟨#[55]⟩ : ByteArray).data.toList, (⟨#[50]⟩ : ByteArray).data.toList) 2 = [52] from whS_c (m := 2) (by decide +kernel)] at h
  exact h
theorem kg_w3 (w : World) (hg : GoodG w) : Calls Tryz.prog 9 #[.agg #[.string ⟨#[45, 53]⟩, .string ⟨#[50]⟩], .int .i64 2] w (GiveS w [45, 50]) := by
  have h := gwhole_any ⟨#[45, 53]⟩ ⟨#[50]⟩ 2 w (by decide) (by decide) hg
  rw [show whS ((⟨#[45, 53]⟩ : ByteArray).data.toList, (⟨#[50]⟩ : ByteArray).data.toList) 2 = [45, 50] from whS_c (m := 2) (by decide +kernel)] at h
  exact h
theorem kg_w4 (w : World) (hg : GoodG w) : Calls Tryz.prog 9 #[.agg #[.string ⟨#[45, 55]⟩, .string ⟨#[50]⟩], .int .i64 1] w (GiveS w [45, 51]) := by
  have h := gwhole_any ⟨#[45, 55]⟩ ⟨#[50]⟩ 1 w (by decide) (by decide) hg
  rw [show whS ((⟨#[45, 55]⟩ : ByteArray).data.toList, (⟨#[50]⟩ : ByteArray).data.toList) 1 = [45, 51] from whS_c (m := 1) (by decide +kernel)] at h
  exact h
theorem kg_w5 (w : World) (hg : GoodG w) : Calls Tryz.prog 9 #[.agg #[.string ⟨#[45, 55]⟩, .string ⟨#[50]⟩], .int .i64 0] w (GiveS w [45, 52]) := by
  have h := gwhole_any ⟨#[45, 55]⟩ ⟨#[50]⟩ 0 w (by decide) (by decide) hg
  rw [show whS ((⟨#[45, 55]⟩ : ByteArray).data.toList, (⟨#[50]⟩ : ByteArray).data.toList) 0 = [45, 52] from whS_c (m := 0) (by decide +kernel)] at h
  exact h
theorem kg_w6 (w : World) (hg : GoodG w) : Calls Tryz.prog 9 #[.agg #[.string ⟨#[49]⟩, .string ⟨#[49]⟩], .int .i64 3] w (GiveS w []) := by
  have h := gwhole_any ⟨#[49]⟩ ⟨#[49]⟩ 3 w (by decide) (by decide) hg
  rw [show whS ((⟨#[49]⟩ : ByteArray).data.toList, (⟨#[49]⟩ : ByteArray).data.toList) 3 = [] from whS_mode (.inr (by decide))] at h
  exact h
theorem kg_r1 (w : World) (hg : GoodG w) : Calls Tryz.prog 11 #[.agg #[.string ⟨#[49, 55]⟩, .string ⟨#[49, 48]⟩], .agg #[.string ⟨#[49]⟩, .string ⟨#[50]⟩], .int .i64 2] w (GiveR w ([51], [50])) := by
  have h := ground_any ⟨#[49, 55]⟩ ⟨#[49, 48]⟩ ⟨#[49]⟩ ⟨#[50]⟩ 2 w (by decide) (by decide) (by decide) (by decide) hg
  rw [show rndS ((⟨#[49, 55]⟩ : ByteArray).data.toList, (⟨#[49, 48]⟩ : ByteArray).data.toList) ((⟨#[49]⟩ : ByteArray).data.toList, (⟨#[50]⟩ : ByteArray).data.toList) 2 = ([51], [50]) from rndS_c (m := 2) (by decide +kernel)] at h
  exact h
theorem kg_r2 (w : World) (hg : GoodG w) : Calls Tryz.prog 11 #[.agg #[.string ⟨#[49]⟩, .string ⟨#[49]⟩], .agg #[.string ⟨#[48]⟩, .string ⟨#[49]⟩], .int .i64 0] w (GiveR w ([], [])) := by
  have h := ground_any ⟨#[49]⟩ ⟨#[49]⟩ ⟨#[48]⟩ ⟨#[49]⟩ 0 w (by decide) (by decide) (by decide) (by decide) hg
  rw [show rndS ((⟨#[49]⟩ : ByteArray).data.toList, (⟨#[49]⟩ : ByteArray).data.toList) ((⟨#[48]⟩ : ByteArray).data.toList, (⟨#[49]⟩ : ByteArray).data.toList) 0 = ([], []) from rndS_grid (by decide +kernel)] at h
  exact h
theorem kg_c1 (w : World) (hg : GoodG w) : Calls Tryz.prog 13 #[.agg #[.string ⟨#[49]⟩, .string ⟨#[51]⟩]] w (GiveR w ([51, 51], [49, 48, 48])) := by
  have h := gcents_any ⟨#[49]⟩ ⟨#[51]⟩ w (by decide) (by decide) hg
  rw [show cenS ((⟨#[49]⟩ : ByteArray).data.toList, (⟨#[51]⟩ : ByteArray).data.toList) = ([51, 51], [49, 48, 48]) from rndS_c (m := 2) (by decide +kernel)] at h
  exact h
theorem kg_o0 (w : World) : Calls Tryz.prog 24 #[.int .i64 0] w (GiveR w ([48], [49])) := by
  have h := rqof_any 0 w (by decide) (by decide)
  rw [show wd 0 = [48] from (by rw [wd_pos (by decide)]; exact dig_valS (l := [48]) (by decide))] at h
  exact h
theorem kg_o1 (w : World) : Calls Tryz.prog 24 #[.int .i64 1] w (GiveR w ([49], [49])) := by
  have h := rqof_any 1 w (by decide) (by decide)
  rw [show wd 1 = [49] from (by rw [wd_pos (by decide)]; exact dig_valS (l := [49]) (by decide))] at h
  exact h
set_option maxRecDepth 100000 in
set_option maxHeartbeats 4000000 in
theorem fixed5_any (w : World) (ht : GoodG w) :
    Calls Tryz.prog 8 #[] w (GiveB w true) := by
  have HT := Lib.hid ht; clear ht
  go_enter Tryz.func8, Tryz.ntmps8
  go_wp2_with fail
  have BW := Below.refl w.heap.size w
  have b0 : Below w.heap.size w w := Below.refl _ _
  refine (kg_52 _).mono ?_
  rintro e w1 ⟨rfl, b⟩
  have b1 := Below.more b0 b
  clear b
  go_wp2_with fail
  refine (kg_w1 _ (HT.out.below b1)).mono ?_
  rintro e w2 ⟨rfl, b⟩
  have b2 := Below.more b1 b
  clear b
  go_wp2_with fail
  refine (kg_72 _).mono ?_
  rintro e w3 ⟨rfl, b⟩
  have b3 := Below.more b2 b
  clear b
  go_wp2_with fail
  refine (kg_w2 _ (HT.out.below b3)).mono ?_
  rintro e w4 ⟨rfl, b⟩
  have b4 := Below.more b3 b
  clear b
  go_wp2_with fail
  refine (kg_m52 _).mono ?_
  rintro e w5 ⟨rfl, b⟩
  have b5 := Below.more b4 b
  clear b
  go_wp2_with fail
  refine (kg_w3 _ (HT.out.below b5)).mono ?_
  rintro e w6 ⟨rfl, b⟩
  have b6 := Below.more b5 b
  clear b
  go_wp2_with fail
  refine (kg_m72 _).mono ?_
  rintro e w7 ⟨rfl, b⟩
  have b7 := Below.more b6 b
  clear b
  go_wp2_with fail
  refine (kg_w4 _ (HT.out.below b7)).mono ?_
  rintro e w8 ⟨rfl, b⟩
  have b8 := Below.more b7 b
  clear b
  go_wp2_with fail
  refine (kg_m72 _).mono ?_
  rintro e w9 ⟨rfl, b⟩
  have b9 := Below.more b8 b
  clear b
  go_wp2_with fail
  refine (kg_w5 _ (HT.out.below b9)).mono ?_
  rintro e w10 ⟨rfl, b⟩
  have b10 := Below.more b9 b
  clear b
  go_wp2_with fail
  refine (kg_1710 _).mono ?_
  rintro e w11 ⟨rfl, b⟩
  have b11 := Below.more b10 b
  clear b
  go_wp2_with fail
  refine (kg_12 _).mono ?_
  rintro e w12 ⟨rfl, b⟩
  have b12 := Below.more b11 b
  clear b
  go_wp2_with fail
  refine (kg_r1 _ (HT.out.below b12)).mono ?_
  rintro e w13 ⟨rfl, b⟩
  have b13 := Below.more b12 b
  clear b
  go_wp2_with fail
  refine (kg_32 _).mono ?_
  rintro e w14 ⟨rfl, b⟩
  have b14 := Below.more b13 b
  clear b
  go_wp2_with fail
  refine (kg_13 _).mono ?_
  rintro e w15 ⟨rfl, b⟩
  have b15 := Below.more b14 b
  clear b
  go_wp2_with fail
  refine (kg_c1 _ (HT.out.below b15)).mono ?_
  rintro e w16 ⟨rfl, b⟩
  have b16 := Below.more b15 b
  clear b
  go_wp2_with fail
  refine (kg_33 _).mono ?_
  rintro e w17 ⟨rfl, b⟩
  have b17 := Below.more b16 b
  clear b
  go_wp2_with fail
  refine (kg_o1 _).mono ?_
  rintro e w18 ⟨rfl, b⟩
  have b18 := Below.more b17 b
  clear b
  go_wp2_with fail
  refine (kg_w6 _ (HT.out.below b18)).mono ?_
  rintro e w19 ⟨rfl, b⟩
  have b19 := Below.more b18 b
  clear b
  go_wp2_with fail
  refine (kg_o1 _).mono ?_
  rintro e w20 ⟨rfl, b⟩
  have b20 := Below.more b19 b
  clear b
  go_wp2_with fail
  refine (kg_o0 _).mono ?_
  rintro e w21 ⟨rfl, b⟩
  have b21 := Below.more b20 b
  clear b
  go_wp2_with fail
  refine (kg_r2 _ (HT.out.below b21)).mono ?_
  rintro e w22 ⟨rfl, b⟩
  have b22 := Below.more b21 b
  clear b
  go_wp2_with fail
  go_ret
  exact ⟨rfl, Below.more BW b22⟩
end Go.Proofs.YtnahepfnejdcgaaGreatDoor
