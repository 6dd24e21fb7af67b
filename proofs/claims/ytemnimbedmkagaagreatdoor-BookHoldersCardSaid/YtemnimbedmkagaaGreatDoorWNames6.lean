/- The walk of BookNames. -/
import Derived.Laws.IdiomStrings
import Derived.Test.YtemnimbedmkagaaGreatDoorFixB
namespace Go.Proofs.YtemnimbedmkagaaGreatDoor
open Go.RowKit
set_option linter.unusedSimpArgs false
set_option linter.unusedVariables false

theorem okB_pos {i : Nat} {c : UInt8} (h : 0 < i) : okB i c = nameC c := by
  unfold okB
  rw [decide_eq_false (show ¬ i = 0 by omega), Bool.and_false, Bool.or_false]
/-- A byte more behind a name. -/
theorem name_more {l : List UInt8} (c : UInt8) (h : isName l = true) : isName (l ++ [c]) = (nameC c && decide (l.length < 20)) := by
  unfold isName at h ⊢
  simp only [Bool.and_eq_true, decide_eq_true_eq] at h
  rw [nmFrom_append, h.1, Nat.zero_add, Bool.true_and]
  show ((okB l.length c && true) && _) = _
  rw [okB_pos (by omega), Bool.and_true, List.length_append]
  show (nameC c && (decide (1 ≤ l.length + 1) && decide (l.length + 1 ≤ 20))) = _
  rw [decide_eq_true (show 1 ≤ l.length + 1 by omega), Bool.true_and]
  congr 1
theorem name_none {l : List UInt8} (c : UInt8) (h : isName l = false) (h0 : l ≠ []) : isName (l ++ [c]) = false := by
  cases e : isName (l ++ [c]) with
  | false => rfl
  | true =>
    unfold isName at h e
    simp only [Bool.and_eq_true, decide_eq_true_eq] at e
    rw [nmFrom_append, Bool.and_eq_true] at e
    have hl : l.length ≠ 0 := fun k => h0 (List.length_eq_zero_iff.1 k)
    have e2 : l.length + 1 ≤ 20 := by have := e.2.2; rwa [List.length_append] at this
    rw [e.1.1] at h
    rw [decide_eq_true (show 1 ≤ l.length by omega), decide_eq_true (show l.length ≤ 20 by omega)] at h
    exact absurd h (by decide)
variable {G : World → Prop}
set_option maxRecDepth 100000 in
set_option maxHeartbeats 4000000 in
theorem names6_long (H : BookC G) (s : ByteArray) (c : Int) (w : World) (hl : (30 : Int) < (s.size : Int)) (hg : G w) :
    Calls Tryz.prog 6 #[.string s, .int .u8 c] w (GiveB w true) := by
  have HB := Lib.hid H; have HT := Lib.hid hg; clear H hg
  go_enter Tryz.func6, Tryz.ntmps6
  go_wp2_with fail
  have BW := Below.refl w.heap.size w
  have b0 : Below w.heap.size w w := Below.refl _ _
  go_wp2_with fail
  refine (fixed6_any HB.out _ (HB.out.below HT.out b0)).mono ?_
  rintro e w1 ⟨rfl, b⟩
  have b1 := Below.more b0 b
  clear b
  go_wp2_with fail
  refine (fixed6_any HB.out _ (HB.out.below HT.out b1)).mono ?_
  rintro e w2 ⟨rfl, b⟩
  have b2 := Below.more b1 b
  clear b
  go_wp2_with fail
  go_ret
  exact ⟨ret_bool (by first | rfl | simp [*]), Below.more BW b2⟩
theorem conv_one (w : World) (c : UInt8) : (convert 45 9 (.slice (some ⟨w.heap.size, 0, none⟩) 1 1)).run Tryz.prog (w.alloc (.cells #[.int .u8 (c.toNat : Int)] 5)) = .ok (.string ⟨[c].toArray⟩) (w.alloc (.cells #[.int .u8 (c.toNat : Int)] 5)) :=
  run_convert_bytes_back _ 45 9 5 ⟨w.heap.size, 0, none⟩ 1 [c] Tryz.underlying45 Tryz.underlying5 Tryz.underlying9 (fun j hj => by
    obtain rfl : j = 0 := by have : j < 1 := hj; omega
    rw [Addr.add_lit]
    exact cell_new _ _ _ _ rfl 0)
theorem nameC_iff {c : UInt8} : nameC c = true ↔ (97 ≤ c.toNat ∧ c.toNat ≤ 122) ∨ (48 ≤ c.toNat ∧ c.toNat ≤ 57) := by
  unfold nameC
  simp only [Bool.or_eq_true, Bool.and_eq_true, decide_eq_true_eq]
theorem nameC_no {c : UInt8} (h : ¬ ((97 ≤ c.toNat ∧ c.toNat ≤ 122) ∨ (48 ≤ c.toNat ∧ c.toNat ≤ 57))) : nameC c = false := by
  cases e : nameC c with
  | false => rfl
  | true => exact absurd (nameC_iff.1 e) h
set_option maxRecDepth 100000 in
set_option maxHeartbeats 4000000 in
theorem nm_an0 (H : BookC G) (s : ByteArray) (c : UInt8) (w : World) (hl : ¬ (30 : Int) < (s.size : Int)) (q0 : (c.toNat : Int) < 48)  (hg : G w)
    (CN : Hid (∀ w, G w → Calls Tryz.prog 14 #[.string s] w (GiveB w false)))
    (CT : Hid (∀ w, G w → Calls Tryz.prog 14 #[.string (s ++ ⟨[c].toArray⟩)] w (GiveB w false))) :
    Calls Tryz.prog 6 #[.string s, .int .u8 (c.toNat : Int)] w (GiveB w true) := by
  have f0 : ¬ 97 ≤ (c.toNat : Int) := by omega
  have f1 : ¬ 48 ≤ (c.toNat : Int) := by omega
  have HB := Lib.hid H; have HT := Lib.hid hg; clear H hg
  go_enter Tryz.func6, Tryz.ntmps6
  go_wp2_with fail
  have BW := Below.refl w.heap.size w
  have b0 : Below w.heap.size w w := Below.refl _ _
  go_wp2_with fail
  refine (fixed6_any HB.out _ (HB.out.below HT.out b0)).mono ?_
  rintro e w1 ⟨rfl, b⟩
  have b1 := Below.more b0 b
  clear b
  have hcv := conv_one w1 c
  have ba := fun x => Below.alloc b1 (Below.size b1) x
  have hG := Lib.hid (HB.out.below HT.out (ba (.cells #[.int .u8 (c.toNat : Int)] 5)))
  go_wp2_with fail
  refine (CN.out _ hG.out).mono ?_
  rintro e w2 ⟨rfl, b⟩
  have b2 := Below.more (ba _) b
  clear b ba hG hcv
  go_wp2_with fail
  refine (CT.out _ (HB.out.below HT.out b2)).mono ?_
  rintro e w3 ⟨rfl, b⟩
  have b3 := Below.more b2 b
  clear b
  go_wp2_with fail
  go_ret
  exact ⟨ret_bool (by first | rfl | simp [*]), Below.more BW b3⟩
set_option maxRecDepth 100000 in
set_option maxHeartbeats 4000000 in
theorem nm_an1 (H : BookC G) (s : ByteArray) (c : UInt8) (w : World) (hl : ¬ (30 : Int) < (s.size : Int)) (q0 : (c.toNat : Int) < 48) (he : s = ⟨#[]⟩) (hg : G w)
    (CN : Hid (∀ w, G w → Calls Tryz.prog 14 #[.string s] w (GiveB w false)))
    (CT : Hid (∀ w, G w → Calls Tryz.prog 14 #[.string (s ++ ⟨[c].toArray⟩)] w (GiveB w true))) :
    Calls Tryz.prog 6 #[.string s, .int .u8 (c.toNat : Int)] w (GiveB w true) := by
  have f0 : ¬ 97 ≤ (c.toNat : Int) := by omega
  have f1 : ¬ 48 ≤ (c.toNat : Int) := by omega
  subst he
  have HB := Lib.hid H; have HT := Lib.hid hg; clear H hg
  go_enter Tryz.func6, Tryz.ntmps6
  go_wp2_with fail
  have BW := Below.refl w.heap.size w
  have b0 : Below w.heap.size w w := Below.refl _ _
  go_wp2_with fail
  refine (fixed6_any HB.out _ (HB.out.below HT.out b0)).mono ?_
  rintro e w1 ⟨rfl, b⟩
  have b1 := Below.more b0 b
  clear b
  have hcv := conv_one w1 c
  have ba := fun x => Below.alloc b1 (Below.size b1) x
  have hG := Lib.hid (HB.out.below HT.out (ba (.cells #[.int .u8 (c.toNat : Int)] 5)))
  go_wp2_with fail
  refine (CN.out _ hG.out).mono ?_
  rintro e w2 ⟨rfl, b⟩
  have b2 := Below.more (ba _) b
  clear b ba hG hcv
  go_wp2_with fail
  refine (CT.out _ (HB.out.below HT.out b2)).mono ?_
  rintro e w3 ⟨rfl, b⟩
  have b3 := Below.more b2 b
  clear b
  go_wp2_with fail
  go_ret
  exact ⟨ret_bool (by first | rfl | simp [*]), Below.more BW b3⟩
set_option maxRecDepth 100000 in
set_option maxHeartbeats 4000000 in
theorem nm_ay3 (H : BookC G) (s : ByteArray) (c : UInt8) (w : World) (hl : ¬ (30 : Int) < (s.size : Int)) (q0 : (c.toNat : Int) < 48) (hl3 : (s.size : Int) ≤ 20) (hg : G w)
    (CN : Hid (∀ w, G w → Calls Tryz.prog 14 #[.string s] w (GiveB w true)))
    (CT : Hid (∀ w, G w → Calls Tryz.prog 14 #[.string (s ++ ⟨[c].toArray⟩)] w (GiveB w false))) :
    Calls Tryz.prog 6 #[.string s, .int .u8 (c.toNat : Int)] w (GiveB w true) := by
  have f0 : ¬ 97 ≤ (c.toNat : Int) := by omega
  have f1 : ¬ 48 ≤ (c.toNat : Int) := by omega
  have HB := Lib.hid H; have HT := Lib.hid hg; clear H hg
  go_enter Tryz.func6, Tryz.ntmps6
  go_wp2_with fail
  have BW := Below.refl w.heap.size w
  have b0 : Below w.heap.size w w := Below.refl _ _
  go_wp2_with fail
  refine (fixed6_any HB.out _ (HB.out.below HT.out b0)).mono ?_
  rintro e w1 ⟨rfl, b⟩
  have b1 := Below.more b0 b
  clear b
  have hcv := conv_one w1 c
  have ba := fun x => Below.alloc b1 (Below.size b1) x
  have hG := Lib.hid (HB.out.below HT.out (ba (.cells #[.int .u8 (c.toNat : Int)] 5)))
  go_wp2_with fail
  refine (CN.out _ hG.out).mono ?_
  rintro e w2 ⟨rfl, b⟩
  have b2 := Below.more (ba _) b
  clear b ba hG hcv
  go_wp2_with fail
  refine (CT.out _ (HB.out.below HT.out b2)).mono ?_
  rintro e w3 ⟨rfl, b⟩
  have b3 := Below.more b2 b
  clear b
  go_wp2_with fail
  go_ret
  exact ⟨ret_bool (by first | rfl | simp [*]), Below.more BW b3⟩
set_option maxRecDepth 100000 in
set_option maxHeartbeats 4000000 in
theorem nm_bn0 (H : BookC G) (s : ByteArray) (c : UInt8) (w : World) (hl : ¬ (30 : Int) < (s.size : Int)) (q0 : 48 ≤ (c.toNat : Int)) (q1 : (c.toNat : Int) ≤ 57)  (hg : G w)
    (CN : Hid (∀ w, G w → Calls Tryz.prog 14 #[.string s] w (GiveB w false)))
    (CT : Hid (∀ w, G w → Calls Tryz.prog 14 #[.string (s ++ ⟨[c].toArray⟩)] w (GiveB w false))) :
    Calls Tryz.prog 6 #[.string s, .int .u8 (c.toNat : Int)] w (GiveB w true) := by
  have f0 : ¬ 97 ≤ (c.toNat : Int) := by omega
  have HB := Lib.hid H; have HT := Lib.hid hg; clear H hg
  go_enter Tryz.func6, Tryz.ntmps6
  go_wp2_with fail
  have BW := Below.refl w.heap.size w
  have b0 : Below w.heap.size w w := Below.refl _ _
  go_wp2_with fail
  refine (fixed6_any HB.out _ (HB.out.below HT.out b0)).mono ?_
  rintro e w1 ⟨rfl, b⟩
  have b1 := Below.more b0 b
  clear b
  have hcv := conv_one w1 c
  have ba := fun x => Below.alloc b1 (Below.size b1) x
  have hG := Lib.hid (HB.out.below HT.out (ba (.cells #[.int .u8 (c.toNat : Int)] 5)))
  go_wp2_with fail
  refine (CN.out _ hG.out).mono ?_
  rintro e w2 ⟨rfl, b⟩
  have b2 := Below.more (ba _) b
  clear b ba hG hcv
  go_wp2_with fail
  refine (CT.out _ (HB.out.below HT.out b2)).mono ?_
  rintro e w3 ⟨rfl, b⟩
  have b3 := Below.more b2 b
  clear b
  go_wp2_with fail
  go_ret
  exact ⟨ret_bool (by first | rfl | simp [*]), Below.more BW b3⟩
set_option maxRecDepth 100000 in
set_option maxHeartbeats 4000000 in
theorem nm_bn1 (H : BookC G) (s : ByteArray) (c : UInt8) (w : World) (hl : ¬ (30 : Int) < (s.size : Int)) (q0 : 48 ≤ (c.toNat : Int)) (q1 : (c.toNat : Int) ≤ 57) (he : s = ⟨#[]⟩) (hg : G w)
    (CN : Hid (∀ w, G w → Calls Tryz.prog 14 #[.string s] w (GiveB w false)))
    (CT : Hid (∀ w, G w → Calls Tryz.prog 14 #[.string (s ++ ⟨[c].toArray⟩)] w (GiveB w true))) :
    Calls Tryz.prog 6 #[.string s, .int .u8 (c.toNat : Int)] w (GiveB w true) := by
  have f0 : ¬ 97 ≤ (c.toNat : Int) := by omega
  subst he
  have HB := Lib.hid H; have HT := Lib.hid hg; clear H hg
  go_enter Tryz.func6, Tryz.ntmps6
  go_wp2_with fail
  have BW := Below.refl w.heap.size w
  have b0 : Below w.heap.size w w := Below.refl _ _
  go_wp2_with fail
  refine (fixed6_any HB.out _ (HB.out.below HT.out b0)).mono ?_
  rintro e w1 ⟨rfl, b⟩
  have b1 := Below.more b0 b
  clear b
  have hcv := conv_one w1 c
  have ba := fun x => Below.alloc b1 (Below.size b1) x
  have hG := Lib.hid (HB.out.below HT.out (ba (.cells #[.int .u8 (c.toNat : Int)] 5)))
  go_wp2_with fail
  refine (CN.out _ hG.out).mono ?_
  rintro e w2 ⟨rfl, b⟩
  have b2 := Below.more (ba _) b
  clear b ba hG hcv
  go_wp2_with fail
  refine (CT.out _ (HB.out.below HT.out b2)).mono ?_
  rintro e w3 ⟨rfl, b⟩
  have b3 := Below.more b2 b
  clear b
  go_wp2_with fail
  go_ret
  exact ⟨ret_bool (by first | rfl | simp [*]), Below.more BW b3⟩
set_option maxRecDepth 100000 in
set_option maxHeartbeats 4000000 in
theorem nm_by1 (H : BookC G) (s : ByteArray) (c : UInt8) (w : World) (hl : ¬ (30 : Int) < (s.size : Int)) (q0 : 48 ≤ (c.toNat : Int)) (q1 : (c.toNat : Int) ≤ 57) (hl2 : (s.size : Int) < 20) (hl3 : (s.size : Int) ≤ 20) (hg : G w)
    (CN : Hid (∀ w, G w → Calls Tryz.prog 14 #[.string s] w (GiveB w true)))
    (CT : Hid (∀ w, G w → Calls Tryz.prog 14 #[.string (s ++ ⟨[c].toArray⟩)] w (GiveB w true))) :
    Calls Tryz.prog 6 #[.string s, .int .u8 (c.toNat : Int)] w (GiveB w true) := by
  have f0 : ¬ 97 ≤ (c.toNat : Int) := by omega
  have HB := Lib.hid H; have HT := Lib.hid hg; clear H hg
  go_enter Tryz.func6, Tryz.ntmps6
  go_wp2_with fail
  have BW := Below.refl w.heap.size w
  have b0 : Below w.heap.size w w := Below.refl _ _
  go_wp2_with fail
  refine (fixed6_any HB.out _ (HB.out.below HT.out b0)).mono ?_
  rintro e w1 ⟨rfl, b⟩
  have b1 := Below.more b0 b
  clear b
  have hcv := conv_one w1 c
  have ba := fun x => Below.alloc b1 (Below.size b1) x
  have hG := Lib.hid (HB.out.below HT.out (ba (.cells #[.int .u8 (c.toNat : Int)] 5)))
  go_wp2_with fail
  refine (CN.out _ hG.out).mono ?_
  rintro e w2 ⟨rfl, b⟩
  have b2 := Below.more (ba _) b
  clear b ba hG hcv
  go_wp2_with fail
  refine (CT.out _ (HB.out.below HT.out b2)).mono ?_
  rintro e w3 ⟨rfl, b⟩
  have b3 := Below.more b2 b
  clear b
  go_wp2_with fail
  go_ret
  exact ⟨ret_bool (by first | rfl | simp [*]), Below.more BW b3⟩
set_option maxRecDepth 100000 in
set_option maxHeartbeats 4000000 in
theorem nm_by2 (H : BookC G) (s : ByteArray) (c : UInt8) (w : World) (hl : ¬ (30 : Int) < (s.size : Int)) (q0 : 48 ≤ (c.toNat : Int)) (q1 : (c.toNat : Int) ≤ 57) (hl2 : ¬ (s.size : Int) < 20) (hl3 : (s.size : Int) ≤ 20) (hg : G w)
    (CN : Hid (∀ w, G w → Calls Tryz.prog 14 #[.string s] w (GiveB w true)))
    (CT : Hid (∀ w, G w → Calls Tryz.prog 14 #[.string (s ++ ⟨[c].toArray⟩)] w (GiveB w false))) :
    Calls Tryz.prog 6 #[.string s, .int .u8 (c.toNat : Int)] w (GiveB w true) := by
  have f0 : ¬ 97 ≤ (c.toNat : Int) := by omega
  have HB := Lib.hid H; have HT := Lib.hid hg; clear H hg
  go_enter Tryz.func6, Tryz.ntmps6
  go_wp2_with fail
  have BW := Below.refl w.heap.size w
  have b0 : Below w.heap.size w w := Below.refl _ _
  go_wp2_with fail
  refine (fixed6_any HB.out _ (HB.out.below HT.out b0)).mono ?_
  rintro e w1 ⟨rfl, b⟩
  have b1 := Below.more b0 b
  clear b
  have hcv := conv_one w1 c
  have ba := fun x => Below.alloc b1 (Below.size b1) x
  have hG := Lib.hid (HB.out.below HT.out (ba (.cells #[.int .u8 (c.toNat : Int)] 5)))
  go_wp2_with fail
  refine (CN.out _ hG.out).mono ?_
  rintro e w2 ⟨rfl, b⟩
  have b2 := Below.more (ba _) b
  clear b ba hG hcv
  go_wp2_with fail
  refine (CT.out _ (HB.out.below HT.out b2)).mono ?_
  rintro e w3 ⟨rfl, b⟩
  have b3 := Below.more b2 b
  clear b
  go_wp2_with fail
  go_ret
  exact ⟨ret_bool (by first | rfl | simp [*]), Below.more BW b3⟩
set_option maxRecDepth 100000 in
set_option maxHeartbeats 4000000 in
theorem nm_cn0 (H : BookC G) (s : ByteArray) (c : UInt8) (w : World) (hl : ¬ (30 : Int) < (s.size : Int)) (q0 : 57 < (c.toNat : Int)) (q1 : (c.toNat : Int) < 97)  (hg : G w)
    (CN : Hid (∀ w, G w → Calls Tryz.prog 14 #[.string s] w (GiveB w false)))
    (CT : Hid (∀ w, G w → Calls Tryz.prog 14 #[.string (s ++ ⟨[c].toArray⟩)] w (GiveB w false))) :
    Calls Tryz.prog 6 #[.string s, .int .u8 (c.toNat : Int)] w (GiveB w true) := by
  have f0 : ¬ 97 ≤ (c.toNat : Int) := by omega
  have f1 : 48 ≤ (c.toNat : Int) := by omega
  have f2 : ¬ (c.toNat : Int) ≤ 57 := by omega
  have HB := Lib.hid H; have HT := Lib.hid hg; clear H hg
  go_enter Tryz.func6, Tryz.ntmps6
  go_wp2_with fail
  have BW := Below.refl w.heap.size w
  have b0 : Below w.heap.size w w := Below.refl _ _
  go_wp2_with fail
  refine (fixed6_any HB.out _ (HB.out.below HT.out b0)).mono ?_
  rintro e w1 ⟨rfl, b⟩
  have b1 := Below.more b0 b
  clear b
  have hcv := conv_one w1 c
  have ba := fun x => Below.alloc b1 (Below.size b1) x
  have hG := Lib.hid (HB.out.below HT.out (ba (.cells #[.int .u8 (c.toNat : Int)] 5)))
  go_wp2_with fail
  refine (CN.out _ hG.out).mono ?_
  rintro e w2 ⟨rfl, b⟩
  have b2 := Below.more (ba _) b
  clear b ba hG hcv
  go_wp2_with fail
  refine (CT.out _ (HB.out.below HT.out b2)).mono ?_
  rintro e w3 ⟨rfl, b⟩
  have b3 := Below.more b2 b
  clear b
  go_wp2_with fail
  go_ret
  exact ⟨ret_bool (by first | rfl | simp [*]), Below.more BW b3⟩
set_option maxRecDepth 100000 in
set_option maxHeartbeats 4000000 in
theorem nm_cn1 (H : BookC G) (s : ByteArray) (c : UInt8) (w : World) (hl : ¬ (30 : Int) < (s.size : Int)) (q0 : 57 < (c.toNat : Int)) (q1 : (c.toNat : Int) < 97) (he : s = ⟨#[]⟩) (hg : G w)
    (CN : Hid (∀ w, G w → Calls Tryz.prog 14 #[.string s] w (GiveB w false)))
    (CT : Hid (∀ w, G w → Calls Tryz.prog 14 #[.string (s ++ ⟨[c].toArray⟩)] w (GiveB w true))) :
    Calls Tryz.prog 6 #[.string s, .int .u8 (c.toNat : Int)] w (GiveB w true) := by
  have f0 : ¬ 97 ≤ (c.toNat : Int) := by omega
  have f1 : 48 ≤ (c.toNat : Int) := by omega
  have f2 : ¬ (c.toNat : Int) ≤ 57 := by omega
  subst he
  have HB := Lib.hid H; have HT := Lib.hid hg; clear H hg
  go_enter Tryz.func6, Tryz.ntmps6
  go_wp2_with fail
  have BW := Below.refl w.heap.size w
  have b0 : Below w.heap.size w w := Below.refl _ _
  go_wp2_with fail
  refine (fixed6_any HB.out _ (HB.out.below HT.out b0)).mono ?_
  rintro e w1 ⟨rfl, b⟩
  have b1 := Below.more b0 b
  clear b
  have hcv := conv_one w1 c
  have ba := fun x => Below.alloc b1 (Below.size b1) x
  have hG := Lib.hid (HB.out.below HT.out (ba (.cells #[.int .u8 (c.toNat : Int)] 5)))
  go_wp2_with fail
  refine (CN.out _ hG.out).mono ?_
  rintro e w2 ⟨rfl, b⟩
  have b2 := Below.more (ba _) b
  clear b ba hG hcv
  go_wp2_with fail
  refine (CT.out _ (HB.out.below HT.out b2)).mono ?_
  rintro e w3 ⟨rfl, b⟩
  have b3 := Below.more b2 b
  clear b
  go_wp2_with fail
  go_ret
  exact ⟨ret_bool (by first | rfl | simp [*]), Below.more BW b3⟩
set_option maxRecDepth 100000 in
set_option maxHeartbeats 4000000 in
theorem nm_cy3 (H : BookC G) (s : ByteArray) (c : UInt8) (w : World) (hl : ¬ (30 : Int) < (s.size : Int)) (q0 : 57 < (c.toNat : Int)) (q1 : (c.toNat : Int) < 97) (hl3 : (s.size : Int) ≤ 20) (hg : G w)
    (CN : Hid (∀ w, G w → Calls Tryz.prog 14 #[.string s] w (GiveB w true)))
    (CT : Hid (∀ w, G w → Calls Tryz.prog 14 #[.string (s ++ ⟨[c].toArray⟩)] w (GiveB w false))) :
    Calls Tryz.prog 6 #[.string s, .int .u8 (c.toNat : Int)] w (GiveB w true) := by
  have f0 : ¬ 97 ≤ (c.toNat : Int) := by omega
  have f1 : 48 ≤ (c.toNat : Int) := by omega
  have f2 : ¬ (c.toNat : Int) ≤ 57 := by omega
  have HB := Lib.hid H; have HT := Lib.hid hg; clear H hg
  go_enter Tryz.func6, Tryz.ntmps6
  go_wp2_with fail
  have BW := Below.refl w.heap.size w
  have b0 : Below w.heap.size w w := Below.refl _ _
  go_wp2_with fail
  refine (fixed6_any HB.out _ (HB.out.below HT.out b0)).mono ?_
  rintro e w1 ⟨rfl, b⟩
  have b1 := Below.more b0 b
  clear b
  have hcv := conv_one w1 c
  have ba := fun x => Below.alloc b1 (Below.size b1) x
  have hG := Lib.hid (HB.out.below HT.out (ba (.cells #[.int .u8 (c.toNat : Int)] 5)))
  go_wp2_with fail
  refine (CN.out _ hG.out).mono ?_
  rintro e w2 ⟨rfl, b⟩
  have b2 := Below.more (ba _) b
  clear b ba hG hcv
  go_wp2_with fail
  refine (CT.out _ (HB.out.below HT.out b2)).mono ?_
  rintro e w3 ⟨rfl, b⟩
  have b3 := Below.more b2 b
  clear b
  go_wp2_with fail
  go_ret
  exact ⟨ret_bool (by first | rfl | simp [*]), Below.more BW b3⟩
set_option maxRecDepth 100000 in
set_option maxHeartbeats 4000000 in
theorem nm_dn0 (H : BookC G) (s : ByteArray) (c : UInt8) (w : World) (hl : ¬ (30 : Int) < (s.size : Int)) (q0 : 97 ≤ (c.toNat : Int)) (q1 : (c.toNat : Int) ≤ 122)  (hg : G w)
    (CN : Hid (∀ w, G w → Calls Tryz.prog 14 #[.string s] w (GiveB w false)))
    (CT : Hid (∀ w, G w → Calls Tryz.prog 14 #[.string (s ++ ⟨[c].toArray⟩)] w (GiveB w false))) :
    Calls Tryz.prog 6 #[.string s, .int .u8 (c.toNat : Int)] w (GiveB w true) := by
  have HB := Lib.hid H; have HT := Lib.hid hg; clear H hg
  go_enter Tryz.func6, Tryz.ntmps6
  go_wp2_with fail
  have BW := Below.refl w.heap.size w
  have b0 : Below w.heap.size w w := Below.refl _ _
  go_wp2_with fail
  refine (fixed6_any HB.out _ (HB.out.below HT.out b0)).mono ?_
  rintro e w1 ⟨rfl, b⟩
  have b1 := Below.more b0 b
  clear b
  have hcv := conv_one w1 c
  have ba := fun x => Below.alloc b1 (Below.size b1) x
  have hG := Lib.hid (HB.out.below HT.out (ba (.cells #[.int .u8 (c.toNat : Int)] 5)))
  go_wp2_with fail
  refine (CN.out _ hG.out).mono ?_
  rintro e w2 ⟨rfl, b⟩
  have b2 := Below.more (ba _) b
  clear b ba hG hcv
  go_wp2_with fail
  refine (CT.out _ (HB.out.below HT.out b2)).mono ?_
  rintro e w3 ⟨rfl, b⟩
  have b3 := Below.more b2 b
  clear b
  go_wp2_with fail
  go_ret
  exact ⟨ret_bool (by first | rfl | simp [*]), Below.more BW b3⟩
set_option maxRecDepth 100000 in
set_option maxHeartbeats 4000000 in
theorem nm_dn1 (H : BookC G) (s : ByteArray) (c : UInt8) (w : World) (hl : ¬ (30 : Int) < (s.size : Int)) (q0 : 97 ≤ (c.toNat : Int)) (q1 : (c.toNat : Int) ≤ 122) (he : s = ⟨#[]⟩) (hg : G w)
    (CN : Hid (∀ w, G w → Calls Tryz.prog 14 #[.string s] w (GiveB w false)))
    (CT : Hid (∀ w, G w → Calls Tryz.prog 14 #[.string (s ++ ⟨[c].toArray⟩)] w (GiveB w true))) :
    Calls Tryz.prog 6 #[.string s, .int .u8 (c.toNat : Int)] w (GiveB w true) := by
  subst he
  have HB := Lib.hid H; have HT := Lib.hid hg; clear H hg
  go_enter Tryz.func6, Tryz.ntmps6
  go_wp2_with fail
  have BW := Below.refl w.heap.size w
  have b0 : Below w.heap.size w w := Below.refl _ _
  go_wp2_with fail
  refine (fixed6_any HB.out _ (HB.out.below HT.out b0)).mono ?_
  rintro e w1 ⟨rfl, b⟩
  have b1 := Below.more b0 b
  clear b
  have hcv := conv_one w1 c
  have ba := fun x => Below.alloc b1 (Below.size b1) x
  have hG := Lib.hid (HB.out.below HT.out (ba (.cells #[.int .u8 (c.toNat : Int)] 5)))
  go_wp2_with fail
  refine (CN.out _ hG.out).mono ?_
  rintro e w2 ⟨rfl, b⟩
  have b2 := Below.more (ba _) b
  clear b ba hG hcv
  go_wp2_with fail
  refine (CT.out _ (HB.out.below HT.out b2)).mono ?_
  rintro e w3 ⟨rfl, b⟩
  have b3 := Below.more b2 b
  clear b
  go_wp2_with fail
  go_ret
  exact ⟨ret_bool (by first | rfl | simp [*]), Below.more BW b3⟩
set_option maxRecDepth 100000 in
set_option maxHeartbeats 4000000 in
theorem nm_dy1 (H : BookC G) (s : ByteArray) (c : UInt8) (w : World) (hl : ¬ (30 : Int) < (s.size : Int)) (q0 : 97 ≤ (c.toNat : Int)) (q1 : (c.toNat : Int) ≤ 122) (hl2 : (s.size : Int) < 20) (hl3 : (s.size : Int) ≤ 20) (hg : G w)
    (CN : Hid (∀ w, G w → Calls Tryz.prog 14 #[.string s] w (GiveB w true)))
    (CT : Hid (∀ w, G w → Calls Tryz.prog 14 #[.string (s ++ ⟨[c].toArray⟩)] w (GiveB w true))) :
    Calls Tryz.prog 6 #[.string s, .int .u8 (c.toNat : Int)] w (GiveB w true) := by
  have HB := Lib.hid H; have HT := Lib.hid hg; clear H hg
  go_enter Tryz.func6, Tryz.ntmps6
  go_wp2_with fail
  have BW := Below.refl w.heap.size w
  have b0 : Below w.heap.size w w := Below.refl _ _
  go_wp2_with fail
  refine (fixed6_any HB.out _ (HB.out.below HT.out b0)).mono ?_
  rintro e w1 ⟨rfl, b⟩
  have b1 := Below.more b0 b
  clear b
  have hcv := conv_one w1 c
  have ba := fun x => Below.alloc b1 (Below.size b1) x
  have hG := Lib.hid (HB.out.below HT.out (ba (.cells #[.int .u8 (c.toNat : Int)] 5)))
  go_wp2_with fail
  refine (CN.out _ hG.out).mono ?_
  rintro e w2 ⟨rfl, b⟩
  have b2 := Below.more (ba _) b
  clear b ba hG hcv
  go_wp2_with fail
  refine (CT.out _ (HB.out.below HT.out b2)).mono ?_
  rintro e w3 ⟨rfl, b⟩
  have b3 := Below.more b2 b
  clear b
  go_wp2_with fail
  go_ret
  exact ⟨ret_bool (by first | rfl | simp [*]), Below.more BW b3⟩
set_option maxRecDepth 100000 in
set_option maxHeartbeats 4000000 in
theorem nm_dy2 (H : BookC G) (s : ByteArray) (c : UInt8) (w : World) (hl : ¬ (30 : Int) < (s.size : Int)) (q0 : 97 ≤ (c.toNat : Int)) (q1 : (c.toNat : Int) ≤ 122) (hl2 : ¬ (s.size : Int) < 20) (hl3 : (s.size : Int) ≤ 20) (hg : G w)
    (CN : Hid (∀ w, G w → Calls Tryz.prog 14 #[.string s] w (GiveB w true)))
    (CT : Hid (∀ w, G w → Calls Tryz.prog 14 #[.string (s ++ ⟨[c].toArray⟩)] w (GiveB w false))) :
    Calls Tryz.prog 6 #[.string s, .int .u8 (c.toNat : Int)] w (GiveB w true) := by
  have HB := Lib.hid H; have HT := Lib.hid hg; clear H hg
  go_enter Tryz.func6, Tryz.ntmps6
  go_wp2_with fail
  have BW := Below.refl w.heap.size w
  have b0 : Below w.heap.size w w := Below.refl _ _
  go_wp2_with fail
  refine (fixed6_any HB.out _ (HB.out.below HT.out b0)).mono ?_
  rintro e w1 ⟨rfl, b⟩
  have b1 := Below.more b0 b
  clear b
  have hcv := conv_one w1 c
  have ba := fun x => Below.alloc b1 (Below.size b1) x
  have hG := Lib.hid (HB.out.below HT.out (ba (.cells #[.int .u8 (c.toNat : Int)] 5)))
  go_wp2_with fail
  refine (CN.out _ hG.out).mono ?_
  rintro e w2 ⟨rfl, b⟩
  have b2 := Below.more (ba _) b
  clear b ba hG hcv
  go_wp2_with fail
  refine (CT.out _ (HB.out.below HT.out b2)).mono ?_
  rintro e w3 ⟨rfl, b⟩
  have b3 := Below.more b2 b
  clear b
  go_wp2_with fail
  go_ret
  exact ⟨ret_bool (by first | rfl | simp [*]), Below.more BW b3⟩
set_option maxRecDepth 100000 in
set_option maxHeartbeats 4000000 in
theorem nm_en0 (H : BookC G) (s : ByteArray) (c : UInt8) (w : World) (hl : ¬ (30 : Int) < (s.size : Int)) (q0 : 122 < (c.toNat : Int))  (hg : G w)
    (CN : Hid (∀ w, G w → Calls Tryz.prog 14 #[.string s] w (GiveB w false)))
    (CT : Hid (∀ w, G w → Calls Tryz.prog 14 #[.string (s ++ ⟨[c].toArray⟩)] w (GiveB w false))) :
    Calls Tryz.prog 6 #[.string s, .int .u8 (c.toNat : Int)] w (GiveB w true) := by
  have f0 : 97 ≤ (c.toNat : Int) := by omega
  have f1 : ¬ (c.toNat : Int) ≤ 122 := by omega
  have f2 : 48 ≤ (c.toNat : Int) := by omega
  have f3 : ¬ (c.toNat : Int) ≤ 57 := by omega
  have HB := Lib.hid H; have HT := Lib.hid hg; clear H hg
  go_enter Tryz.func6, Tryz.ntmps6
  go_wp2_with fail
  have BW := Below.refl w.heap.size w
  have b0 : Below w.heap.size w w := Below.refl _ _
  go_wp2_with fail
  refine (fixed6_any HB.out _ (HB.out.below HT.out b0)).mono ?_
  rintro e w1 ⟨rfl, b⟩
  have b1 := Below.more b0 b
  clear b
  have hcv := conv_one w1 c
  have ba := fun x => Below.alloc b1 (Below.size b1) x
  have hG := Lib.hid (HB.out.below HT.out (ba (.cells #[.int .u8 (c.toNat : Int)] 5)))
  go_wp2_with fail
  refine (CN.out _ hG.out).mono ?_
  rintro e w2 ⟨rfl, b⟩
  have b2 := Below.more (ba _) b
  clear b ba hG hcv
  go_wp2_with fail
  refine (CT.out _ (HB.out.below HT.out b2)).mono ?_
  rintro e w3 ⟨rfl, b⟩
  have b3 := Below.more b2 b
  clear b
  go_wp2_with fail
  go_ret
  exact ⟨ret_bool (by first | rfl | simp [*]), Below.more BW b3⟩
set_option maxRecDepth 100000 in
set_option maxHeartbeats 4000000 in
theorem nm_en1 (H : BookC G) (s : ByteArray) (c : UInt8) (w : World) (hl : ¬ (30 : Int) < (s.size : Int)) (q0 : 122 < (c.toNat : Int)) (he : s = ⟨#[]⟩) (hg : G w)
    (CN : Hid (∀ w, G w → Calls Tryz.prog 14 #[.string s] w (GiveB w false)))
    (CT : Hid (∀ w, G w → Calls Tryz.prog 14 #[.string (s ++ ⟨[c].toArray⟩)] w (GiveB w true))) :
    Calls Tryz.prog 6 #[.string s, .int .u8 (c.toNat : Int)] w (GiveB w true) := by
  have f0 : 97 ≤ (c.toNat : Int) := by omega
  have f1 : ¬ (c.toNat : Int) ≤ 122 := by omega
  have f2 : 48 ≤ (c.toNat : Int) := by omega
  have f3 : ¬ (c.toNat : Int) ≤ 57 := by omega
  subst he
  have HB := Lib.hid H; have HT := Lib.hid hg; clear H hg
  go_enter Tryz.func6, Tryz.ntmps6
  go_wp2_with fail
  have BW := Below.refl w.heap.size w
  have b0 : Below w.heap.size w w := Below.refl _ _
  go_wp2_with fail
  refine (fixed6_any HB.out _ (HB.out.below HT.out b0)).mono ?_
  rintro e w1 ⟨rfl, b⟩
  have b1 := Below.more b0 b
  clear b
  have hcv := conv_one w1 c
  have ba := fun x => Below.alloc b1 (Below.size b1) x
  have hG := Lib.hid (HB.out.below HT.out (ba (.cells #[.int .u8 (c.toNat : Int)] 5)))
  go_wp2_with fail
  refine (CN.out _ hG.out).mono ?_
  rintro e w2 ⟨rfl, b⟩
  have b2 := Below.more (ba _) b
  clear b ba hG hcv
  go_wp2_with fail
  refine (CT.out _ (HB.out.below HT.out b2)).mono ?_
  rintro e w3 ⟨rfl, b⟩
  have b3 := Below.more b2 b
  clear b
  go_wp2_with fail
  go_ret
  exact ⟨ret_bool (by first | rfl | simp [*]), Below.more BW b3⟩
set_option maxRecDepth 100000 in
set_option maxHeartbeats 4000000 in
theorem nm_ey3 (H : BookC G) (s : ByteArray) (c : UInt8) (w : World) (hl : ¬ (30 : Int) < (s.size : Int)) (q0 : 122 < (c.toNat : Int)) (hl3 : (s.size : Int) ≤ 20) (hg : G w)
    (CN : Hid (∀ w, G w → Calls Tryz.prog 14 #[.string s] w (GiveB w true)))
    (CT : Hid (∀ w, G w → Calls Tryz.prog 14 #[.string (s ++ ⟨[c].toArray⟩)] w (GiveB w false))) :
    Calls Tryz.prog 6 #[.string s, .int .u8 (c.toNat : Int)] w (GiveB w true) := by
  have f0 : 97 ≤ (c.toNat : Int) := by omega
  have f1 : ¬ (c.toNat : Int) ≤ 122 := by omega
  have f2 : 48 ≤ (c.toNat : Int) := by omega
  have f3 : ¬ (c.toNat : Int) ≤ 57 := by omega
  have HB := Lib.hid H; have HT := Lib.hid hg; clear H hg
  go_enter Tryz.func6, Tryz.ntmps6
  go_wp2_with fail
  have BW := Below.refl w.heap.size w
  have b0 : Below w.heap.size w w := Below.refl _ _
  go_wp2_with fail
  refine (fixed6_any HB.out _ (HB.out.below HT.out b0)).mono ?_
  rintro e w1 ⟨rfl, b⟩
  have b1 := Below.more b0 b
  clear b
  have hcv := conv_one w1 c
  have ba := fun x => Below.alloc b1 (Below.size b1) x
  have hG := Lib.hid (HB.out.below HT.out (ba (.cells #[.int .u8 (c.toNat : Int)] 5)))
  go_wp2_with fail
  refine (CN.out _ hG.out).mono ?_
  rintro e w2 ⟨rfl, b⟩
  have b2 := Below.more (ba _) b
  clear b ba hG hcv
  go_wp2_with fail
  refine (CT.out _ (HB.out.below HT.out b2)).mono ?_
  rintro e w3 ⟨rfl, b⟩
  have b3 := Below.more b2 b
  clear b
  go_wp2_with fail
  go_ret
  exact ⟨ret_bool (by first | rfl | simp [*]), Below.more BW b3⟩
theorem names6_any (H : BookC G) (s : ByteArray) (c : UInt8) (w : World) (hg : G w) :
    Calls Tryz.prog 6 #[.string s, .int .u8 (c.toNat : Int)] w (GiveB w true) := by
  by_cases hl : (30 : Int) < (s.size : Int)
  · exact names6_long H s _ w hl hg
  have ha : (s ++ ⟨[c].toArray⟩ : ByteArray).data.toList = s.data.toList ++ [c] := ba_append _ _
  have hsz : (s ++ ⟨[c].toArray⟩ : ByteArray).size = s.size + 1 := by rw [ByteArray.size_append]; rfl
  have cn := fun w hg => H.name s w (by omega) hg
  have ct := fun w hg => H.name (s ++ ⟨[c].toArray⟩) w (by rw [hsz]; omega) hg
  rw [ha] at ct
  have hlen : s.data.toList.length = s.size := size_toList s
  have hc : c.toNat < 256 := c.toNat_lt
  cases h : isName s.data.toList with
  | false =>
    rw [h] at cn
    cases h2 : isName (s.data.toList ++ [c]) with
    | false =>
      rw [h2] at ct
      by_cases g0 : (c.toNat : Int) < 48
      · exact nm_an0 H s c w hl g0 hg (Lib.hid cn) (Lib.hid ct)
      by_cases g1 : (c.toNat : Int) ≤ 57
      · exact nm_bn0 H s c w hl (by omega) g1 hg (Lib.hid cn) (Lib.hid ct)
      by_cases g3 : (c.toNat : Int) < 97
      · exact nm_cn0 H s c w hl (by omega) g3 hg (Lib.hid cn) (Lib.hid ct)
      by_cases g4 : (c.toNat : Int) ≤ 122
      · exact nm_dn0 H s c w hl (by omega) g4 hg (Lib.hid cn) (Lib.hid ct)
      · exact nm_en0 H s c w hl (by omega) hg (Lib.hid cn) (Lib.hid ct)
    | true =>
      rw [h2] at ct
      have he : s = ⟨#[]⟩ := by
        by_cases h0 : s.data.toList = []
        · exact bytes_eq h0
        · rw [name_none c h h0] at h2; cases h2
      by_cases g0 : (c.toNat : Int) < 48
      · exact nm_an1 H s c w hl g0 he hg (Lib.hid cn) (Lib.hid ct)
      by_cases g1 : (c.toNat : Int) ≤ 57
      · exact nm_bn1 H s c w hl (by omega) g1 he hg (Lib.hid cn) (Lib.hid ct)
      by_cases g3 : (c.toNat : Int) < 97
      · exact nm_cn1 H s c w hl (by omega) g3 he hg (Lib.hid cn) (Lib.hid ct)
      by_cases g4 : (c.toNat : Int) ≤ 122
      · exact nm_dn1 H s c w hl (by omega) g4 he hg (Lib.hid cn) (Lib.hid ct)
      · exact nm_en1 H s c w hl (by omega) he hg (Lib.hid cn) (Lib.hid ct)
  | true =>
    rw [h] at cn
    have hm := name_more c h
    have h20 : s.size ≤ 20 := by
      unfold isName at h
      simp only [Bool.and_eq_true, decide_eq_true_eq] at h
      omega
    have h3 : (s.size : Int) ≤ 20 := by omega
    rw [hlen] at hm
    by_cases g0 : (c.toNat : Int) < 48
    · rw [hm, nameC_no (by omega), Bool.false_and] at ct
      exact nm_ay3 H s c w hl g0 h3 hg (Lib.hid cn) (Lib.hid ct)
    by_cases g1 : (c.toNat : Int) ≤ 57
    · rw [hm, nameC_iff.2 (by omega), Bool.true_and] at ct
      by_cases g2 : (s.size : Int) < 20
      · rw [decide_eq_true (by omega)] at ct
        exact nm_by1 H s c w hl (by omega) g1 g2 h3 hg (Lib.hid cn) (Lib.hid ct)
      · rw [decide_eq_false (by omega)] at ct
        exact nm_by2 H s c w hl (by omega) g1 g2 h3 hg (Lib.hid cn) (Lib.hid ct)
    by_cases g3 : (c.toNat : Int) < 97
    · rw [hm, nameC_no (by omega), Bool.false_and] at ct
      exact nm_cy3 H s c w hl (by omega) g3 h3 hg (Lib.hid cn) (Lib.hid ct)
    by_cases g4 : (c.toNat : Int) ≤ 122
    · rw [hm, nameC_iff.2 (by omega), Bool.true_and] at ct
      by_cases g2 : (s.size : Int) < 20
      · rw [decide_eq_true (by omega)] at ct
        exact nm_dy1 H s c w hl (by omega) g4 g2 h3 hg (Lib.hid cn) (Lib.hid ct)
      · rw [decide_eq_false (by omega)] at ct
        exact nm_dy2 H s c w hl (by omega) g4 g2 h3 hg (Lib.hid cn) (Lib.hid ct)
    · rw [hm, nameC_no (by omega), Bool.false_and] at ct
      exact nm_ey3 H s c w hl (by omega) h3 hg (Lib.hid cn) (Lib.hid ct)
end Go.Proofs.YtemnimbedmkagaaGreatDoor
