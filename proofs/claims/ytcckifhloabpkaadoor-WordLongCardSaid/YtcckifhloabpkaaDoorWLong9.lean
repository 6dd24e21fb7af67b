/- The walk of WordLong. -/
import Derived.Test.YtcckifhloabpkaaDoorWordApi
namespace Go.Proofs.YtcckifhloabpkaaDoor
open Go.RowKit
set_option linter.unusedSimpArgs false
set_option linter.unusedVariables false
open Wd (Tk printT ktT lexAt lexD)
variable {G : World → Prop}
theorem lexD_one {l : List UInt8} {x : UInt8} {r : List UInt8} {kd : Nat} (e : l = x :: r) (h1 : x ≠ 32) (h2 : x ≠ 10) (hk : Wd.kl l = some (kd, l.length)) (hs : l.length ≤ 20000) : lexD l = ([Tk.mk kd l 1 1], 0, 0, 0) := by
  subst e
  unfold lexD
  rw [if_neg (by omega), Wd.lex_tok 1 1 h1 h2 hk, List.drop_length, List.take_length, Wd.lex_nil]
theorem lexD_bad {l : List UInt8} {x : UInt8} {r : List UInt8} (e : l = x :: r) (h1 : x ≠ 32) (h2 : x ≠ 10) (hk : Wd.kl l = none) (hs : l.length ≤ 20000) : lexD l = ([], 90, 1, 1) := by
  subst e
  unfold lexD
  rw [if_neg (by omega), Wd.lex_bad 1 1 h1 h2 hk]
theorem rep_cons {m : Nat} (x : UInt8) (h : 0 < m) : List.replicate m x = x :: List.replicate (m - 1) x := by
  obtain ⟨k, rfl⟩ : ∃ k, m = k + 1 := ⟨m - 1, by omega⟩
  rfl
set_option maxRecDepth 100000 in
set_option maxHeartbeats 4000000 in
theorem long9_lo (H : WordC G) (n : Int) (hn : n < 1) (w : World) (hg : G w) : Calls Tryd.prog 7 #[.int .i64 n] w (GiveB w true) := by
  have HB := Lib.hid H; have HT := Lib.hid hg; clear H hg
  go_enter Tryd.func7, Tryd.ntmps7
  go_wp2_with fail
  have b0 := Below.refl w.heap.size w
  refine (fixed9_any HB.out _ HT.out).mono ?_
  rintro e w1 ⟨rfl, b⟩
  have b1 := Below.more b0 b
  clear b
  go_wp2_with fail
  refine (fixed9_any HB.out _ (HB.out.below HT.out b1)).mono ?_
  rintro e w2 ⟨rfl, b⟩
  have b2 := Below.more b1 b
  clear b
  go_wp2_with fail
  go_ret
  exact ⟨rfl, b2⟩
set_option maxRecDepth 100000 in
set_option maxHeartbeats 4000000 in
theorem long9_hi (H : WordC G) (n : Int) (hn : ¬ n < 1) (hn2 : 200 < n) (w : World) (hg : G w) : Calls Tryd.prog 7 #[.int .i64 n] w (GiveB w true) := by
  have HB := Lib.hid H; have HT := Lib.hid hg; clear H hg
  go_enter Tryd.func7, Tryd.ntmps7
  go_wp2_with fail
  have b0 := Below.refl w.heap.size w
  refine (fixed9_any HB.out _ HT.out).mono ?_
  rintro e w1 ⟨rfl, b⟩
  have b1 := Below.more b0 b
  clear b
  go_wp2_with fail
  refine (fixed9_any HB.out _ (HB.out.below HT.out b1)).mono ?_
  rintro e w2 ⟨rfl, b⟩
  have b2 := Below.more b1 b
  clear b
  go_wp2_with fail
  go_ret
  exact ⟨rfl, b2⟩
set_option maxRecDepth 100000 in
set_option maxHeartbeats 4000000 in
theorem long9_a (H : WordC G) (m : Nat) (hm : ¬ (m : Int) < 1) (hm2 : ¬ 200 < (m : Int)) (h20 : (m : Int) ≤ 20) (h100 : (m : Int) ≤ 100) (w : World) (hg : G w) (A B : ByteArray) (HA : Hid (List.replicate m 97 = A.data.toList)) (HBB : Hid (List.replicate m 49 = B.data.toList))
    (CA : Hid (∀ V, G V → Calls Tryd.prog 9 #[.string A] V (fun e w' => (∃ p c, e = .returned (.tuple #[.slice p 1 c, .int .i64 0, .int .i64 0, .int .i64 0]) ∧ 1 ≤ c ∧ Toks w' p [Tk.mk 0 A.data.toList 1 1]) ∧ Below V.heap.size V w')))
    (CB : Hid (∀ V, G V → Calls Tryd.prog 9 #[.string B] V (fun e w' => (∃ p c, e = .returned (.tuple #[.slice p 1 c, .int .i64 0, .int .i64 0, .int .i64 0]) ∧ 1 ≤ c ∧ Toks w' p [Tk.mk 1 B.data.toList 1 1]) ∧ Below V.heap.size V w'))) :
    Calls Tryd.prog 7 #[.int .i64 m] w (GiveB w true) := by
  have HB := Lib.hid H; have HT := Lib.hid hg; clear H hg
  go_enter Tryd.func7, Tryd.ntmps7
  go_wp2_with fail
  have b0 := Below.refl w.heap.size w
  refine (fixed9_any HB.out _ HT.out).mono ?_
  rintro e w1 ⟨rfl, b⟩
  have b1 := Below.more b0 b
  clear b
  go_wp2_with fail
  go_loopw [3, 4, 5] (fun sv tv iv wr => ∃ (k : Nat) (S T : ByteArray), k ≤ m ∧ iv = .int .i64 k ∧ sv = .string S ∧ tv = .string T ∧ S.size = k ∧ T.size = k ∧ Hid (S.data.toList = List.replicate k 97) ∧ Hid (T.data.toList = List.replicate k 49) ∧ Below w.heap.size w wr) (fun _ _ iv _ => m - (intOf iv).toNat)
  case atStart => exact ⟨0, ⟨#[]⟩, ⟨#[]⟩, Nat.zero_le _, rfl, rfl, rfl, rfl, rfl, Lib.hid rfl, Lib.hid rfl, b1⟩
  case round =>
    obtain ⟨k, S, T, hk, rfl, rfl, rfl, hs, ht, HS, HTT, hw⟩ := hrel
    have HW := Lib.hid hw
    clear hw b1
    by_cases hlt : k < m
    · have hki : (k : Int) < (m : Int) := by omega
      have HS2 : Hid ((S ++ (⟨#[97]⟩ : ByteArray)).data.toList = List.replicate (k + 1) 97) := Lib.hid (by rw [ba_append, HS.out, List.replicate_succ'])
      have HT2 : Hid ((T ++ (⟨#[49]⟩ : ByteArray)).data.toList = List.replicate (k + 1) 49) := Lib.hid (by rw [ba_append, HTT.out, List.replicate_succ'])
      have s1 : (⟨#[97]⟩ : ByteArray).size = 1 := rfl
      have s2 : (⟨#[49]⟩ : ByteArray).size = 1 := rfl
      go_wp2_with fail
      go_roundw
      case rel => exact ⟨k + 1, _, _, hlt, by go_num, rfl, rfl, by rw [ByteArray.size_append, hs]; rfl, by rw [ByteArray.size_append, ht]; rfl, HS2, HT2, HW.out⟩
      case measure => simp [intOf]; omega
    · obtain rfl : k = m := by omega
      obtain rfl : S = A := bytes_eq (HS.out.trans HA.out)
      obtain rfl : T = B := bytes_eq (HTT.out.trans HBB.out)
      clear HS HTT HA HBB
      go_wp2_with fail
      refine (CA.out _ (HB.out.below HT.out HW.out)).mono ?_
      rintro e w2 ⟨⟨p1, c1, rfl, hc1, l1⟩, b⟩
      have b2 := Below.more HW.out b
      have L1 := Lib.hid l1
      clear l1 b
      go_wp2_with fail
      refine (CB.out _ (HB.out.below HT.out b2)).mono ?_
      rintro e w3 ⟨⟨p2, c2, rfl, hc2, l2⟩, b⟩
      have b3 := Below.more b2 b
      have Lx := Lib.hid (RowsG.below L1.out b)
      have Ly := Lib.hid l2
      clear l2 b L1
      have b30 := Below.refl w3.heap.size w3
      obtain ⟨bkx, okx, rfl, x0, x1, x2, x3⟩ := toks_rule Lx.out (k := 0) rfl
      simp only [Nat.zero_mul, Nat.add_zero] at x0 x1 x2 x3
      try dsimp only at x0 x1 x2 x3
      obtain ⟨bky, oky, rfl, y0, y1, y2, y3⟩ := toks_rule Ly.out (k := 0) rfl
      simp only [Nat.zero_mul, Nat.add_zero] at y0 y1 y2 y3
      try dsimp only at y0 y1 y2 y3
      go_wp2_with fail
      go_ret
      exact ⟨ret_bool (by first | rfl | simp [*]), b3⟩
set_option maxRecDepth 100000 in
set_option maxHeartbeats 4000000 in
theorem long9_b (H : WordC G) (m : Nat) (hm : ¬ (m : Int) < 1) (hm2 : ¬ 200 < (m : Int)) (h20 : ¬ (m : Int) ≤ 20) (h100 : (m : Int) ≤ 100) (w : World) (hg : G w) (A B : ByteArray) (HA : Hid (List.replicate m 97 = A.data.toList)) (HBB : Hid (List.replicate m 49 = B.data.toList))
    (CA : Hid (∀ V, G V → Calls Tryd.prog 9 #[.string A] V (fun e w' => (∃ p c, e = .returned (.tuple #[.slice p 0 c, .int .i64 90, .int .i64 1, .int .i64 1]) ∧ 0 ≤ c ∧ Toks w' p []) ∧ Below V.heap.size V w')))
    (CB : Hid (∀ V, G V → Calls Tryd.prog 9 #[.string B] V (fun e w' => (∃ p c, e = .returned (.tuple #[.slice p 1 c, .int .i64 0, .int .i64 0, .int .i64 0]) ∧ 1 ≤ c ∧ Toks w' p [Tk.mk 1 B.data.toList 1 1]) ∧ Below V.heap.size V w'))) :
    Calls Tryd.prog 7 #[.int .i64 m] w (GiveB w true) := by
  have HB := Lib.hid H; have HT := Lib.hid hg; clear H hg
  go_enter Tryd.func7, Tryd.ntmps7
  go_wp2_with fail
  have b0 := Below.refl w.heap.size w
  refine (fixed9_any HB.out _ HT.out).mono ?_
  rintro e w1 ⟨rfl, b⟩
  have b1 := Below.more b0 b
  clear b
  go_wp2_with fail
  go_loopw [3, 4, 5] (fun sv tv iv wr => ∃ (k : Nat) (S T : ByteArray), k ≤ m ∧ iv = .int .i64 k ∧ sv = .string S ∧ tv = .string T ∧ S.size = k ∧ T.size = k ∧ Hid (S.data.toList = List.replicate k 97) ∧ Hid (T.data.toList = List.replicate k 49) ∧ Below w.heap.size w wr) (fun _ _ iv _ => m - (intOf iv).toNat)
  case atStart => exact ⟨0, ⟨#[]⟩, ⟨#[]⟩, Nat.zero_le _, rfl, rfl, rfl, rfl, rfl, Lib.hid rfl, Lib.hid rfl, b1⟩
  case round =>
    obtain ⟨k, S, T, hk, rfl, rfl, rfl, hs, ht, HS, HTT, hw⟩ := hrel
    have HW := Lib.hid hw
    clear hw b1
    by_cases hlt : k < m
    · have hki : (k : Int) < (m : Int) := by omega
      have HS2 : Hid ((S ++ (⟨#[97]⟩ : ByteArray)).data.toList = List.replicate (k + 1) 97) := Lib.hid (by rw [ba_append, HS.out, List.replicate_succ'])
      have HT2 : Hid ((T ++ (⟨#[49]⟩ : ByteArray)).data.toList = List.replicate (k + 1) 49) := Lib.hid (by rw [ba_append, HTT.out, List.replicate_succ'])
      have s1 : (⟨#[97]⟩ : ByteArray).size = 1 := rfl
      have s2 : (⟨#[49]⟩ : ByteArray).size = 1 := rfl
      go_wp2_with fail
      go_roundw
      case rel => exact ⟨k + 1, _, _, hlt, by go_num, rfl, rfl, by rw [ByteArray.size_append, hs]; rfl, by rw [ByteArray.size_append, ht]; rfl, HS2, HT2, HW.out⟩
      case measure => simp [intOf]; omega
    · obtain rfl : k = m := by omega
      obtain rfl : S = A := bytes_eq (HS.out.trans HA.out)
      obtain rfl : T = B := bytes_eq (HTT.out.trans HBB.out)
      clear HS HTT HA HBB
      go_wp2_with fail
      refine (CA.out _ (HB.out.below HT.out HW.out)).mono ?_
      rintro e w2 ⟨⟨p1, c1, rfl, hc1, l1⟩, b⟩
      have b2 := Below.more HW.out b
      have L1 := Lib.hid l1
      clear l1 b
      go_wp2_with fail
      refine (CB.out _ (HB.out.below HT.out b2)).mono ?_
      rintro e w3 ⟨⟨p2, c2, rfl, hc2, l2⟩, b⟩
      have b3 := Below.more b2 b
      have Lx := Lib.hid (RowsG.below L1.out b)
      have Ly := Lib.hid l2
      clear l2 b L1
      have b30 := Below.refl w3.heap.size w3
      obtain ⟨bky, oky, rfl, y0, y1, y2, y3⟩ := toks_rule Ly.out (k := 0) rfl
      simp only [Nat.zero_mul, Nat.add_zero] at y0 y1 y2 y3
      try dsimp only at y0 y1 y2 y3
      go_wp2_with fail
      go_ret
      exact ⟨ret_bool (by first | rfl | simp [*]), b3⟩
set_option maxRecDepth 100000 in
set_option maxHeartbeats 4000000 in
theorem long9_c (H : WordC G) (m : Nat) (hm : ¬ (m : Int) < 1) (hm2 : ¬ 200 < (m : Int)) (h20 : ¬ (m : Int) ≤ 20) (h100 : ¬ (m : Int) ≤ 100) (w : World) (hg : G w) (A B : ByteArray) (HA : Hid (List.replicate m 97 = A.data.toList)) (HBB : Hid (List.replicate m 49 = B.data.toList))
    (CA : Hid (∀ V, G V → Calls Tryd.prog 9 #[.string A] V (fun e w' => (∃ p c, e = .returned (.tuple #[.slice p 0 c, .int .i64 90, .int .i64 1, .int .i64 1]) ∧ 0 ≤ c ∧ Toks w' p []) ∧ Below V.heap.size V w')))
    (CB : Hid (∀ V, G V → Calls Tryd.prog 9 #[.string B] V (fun e w' => (∃ p c, e = .returned (.tuple #[.slice p 0 c, .int .i64 90, .int .i64 1, .int .i64 1]) ∧ 0 ≤ c ∧ Toks w' p []) ∧ Below V.heap.size V w'))) :
    Calls Tryd.prog 7 #[.int .i64 m] w (GiveB w true) := by
  have HB := Lib.hid H; have HT := Lib.hid hg; clear H hg
  go_enter Tryd.func7, Tryd.ntmps7
  go_wp2_with fail
  have b0 := Below.refl w.heap.size w
  refine (fixed9_any HB.out _ HT.out).mono ?_
  rintro e w1 ⟨rfl, b⟩
  have b1 := Below.more b0 b
  clear b
  go_wp2_with fail
  go_loopw [3, 4, 5] (fun sv tv iv wr => ∃ (k : Nat) (S T : ByteArray), k ≤ m ∧ iv = .int .i64 k ∧ sv = .string S ∧ tv = .string T ∧ S.size = k ∧ T.size = k ∧ Hid (S.data.toList = List.replicate k 97) ∧ Hid (T.data.toList = List.replicate k 49) ∧ Below w.heap.size w wr) (fun _ _ iv _ => m - (intOf iv).toNat)
  case atStart => exact ⟨0, ⟨#[]⟩, ⟨#[]⟩, Nat.zero_le _, rfl, rfl, rfl, rfl, rfl, Lib.hid rfl, Lib.hid rfl, b1⟩
  case round =>
    obtain ⟨k, S, T, hk, rfl, rfl, rfl, hs, ht, HS, HTT, hw⟩ := hrel
    have HW := Lib.hid hw
    clear hw b1
    by_cases hlt : k < m
    · have hki : (k : Int) < (m : Int) := by omega
      have HS2 : Hid ((S ++ (⟨#[97]⟩ : ByteArray)).data.toList = List.replicate (k + 1) 97) := Lib.hid (by rw [ba_append, HS.out, List.replicate_succ'])
      have HT2 : Hid ((T ++ (⟨#[49]⟩ : ByteArray)).data.toList = List.replicate (k + 1) 49) := Lib.hid (by rw [ba_append, HTT.out, List.replicate_succ'])
      have s1 : (⟨#[97]⟩ : ByteArray).size = 1 := rfl
      have s2 : (⟨#[49]⟩ : ByteArray).size = 1 := rfl
      go_wp2_with fail
      go_roundw
      case rel => exact ⟨k + 1, _, _, hlt, by go_num, rfl, rfl, by rw [ByteArray.size_append, hs]; rfl, by rw [ByteArray.size_append, ht]; rfl, HS2, HT2, HW.out⟩
      case measure => simp [intOf]; omega
    · obtain rfl : k = m := by omega
      obtain rfl : S = A := bytes_eq (HS.out.trans HA.out)
      obtain rfl : T = B := bytes_eq (HTT.out.trans HBB.out)
      clear HS HTT HA HBB
      go_wp2_with fail
      refine (CA.out _ (HB.out.below HT.out HW.out)).mono ?_
      rintro e w2 ⟨⟨p1, c1, rfl, hc1, l1⟩, b⟩
      have b2 := Below.more HW.out b
      have L1 := Lib.hid l1
      clear l1 b
      go_wp2_with fail
      refine (CB.out _ (HB.out.below HT.out b2)).mono ?_
      rintro e w3 ⟨⟨p2, c2, rfl, hc2, l2⟩, b⟩
      have b3 := Below.more b2 b
      have Lx := Lib.hid (RowsG.below L1.out b)
      have Ly := Lib.hid l2
      clear l2 b L1
      have b30 := Below.refl w3.heap.size w3

      go_wp2_with fail
      go_ret
      exact ⟨ret_bool (by first | rfl | simp [*]), b3⟩
theorem long9_any (H : WordC G) (n : Int) (w : World) (hg : G w) : Calls Tryd.prog 7 #[.int .i64 n] w (GiveB w true) := by
  by_cases h1 : n < 1
  · exact long9_lo H n h1 w hg
  by_cases h2 : 200 < n
  · exact long9_hi H n h1 h2 w hg
  obtain ⟨m, rfl⟩ : ∃ m : Nat, n = (m : Int) := ⟨n.toNat, by omega⟩
  have hm : 0 < m := by omega
  have la : (List.replicate m (97 : UInt8)).length = m := List.length_replicate
  have lb : (List.replicate m (49 : UInt8)).length = m := List.length_replicate
  have sa : (⟨(List.replicate m (97 : UInt8)).toArray⟩ : ByteArray).size ≤ 10000 := by rw [size_tx, la]; omega
  have sb : (⟨(List.replicate m (49 : UInt8)).toArray⟩ : ByteArray).size ≤ 10000 := by rw [size_tx, lb]; omega
  have ca := fun V (hv : G V) => H.lex ⟨(List.replicate m (97 : UInt8)).toArray⟩ V sa hv
  have cb := fun V (hv : G V) => H.lex ⟨(List.replicate m (49 : UInt8)).toArray⟩ V sb hv
  have ka := Wd.long_name hm
  have kb := Wd.long_num hm
  have ea := rep_cons 97 hm
  have eb := rep_cons 49 hm
  have fa : m ≤ 20 → lexD (List.replicate m 97) = ([Tk.mk 0 (List.replicate m 97) 1 1], 0, 0, 0) := fun h => lexD_one ea (by decide) (by decide) (by rw [ka, if_pos h, la]) (by omega)
  have ga : ¬ m ≤ 20 → lexD (List.replicate m 97) = ([], 90, 1, 1) := fun h => lexD_bad ea (by decide) (by decide) (by rw [ka, if_neg h]) (by omega)
  have fb : m ≤ 100 → lexD (List.replicate m 49) = ([Tk.mk 1 (List.replicate m 49) 1 1], 0, 0, 0) := fun h => lexD_one eb (by decide) (by decide) (by rw [kb, if_pos h, lb]) (by omega)
  have gb : ¬ m ≤ 100 → lexD (List.replicate m 49) = ([], 90, 1, 1) := fun h => lexD_bad eb (by decide) (by decide) (by rw [kb, if_neg h]) (by omega)
  have ta : ∀ x : UInt8, (⟨(List.replicate m x).toArray⟩ : ByteArray).data.toList = List.replicate m x := fun x => rfl
  rw [ta] at ca cb
  by_cases h20 : m ≤ 20
  · rw [fa h20] at ca
    rw [fb (by omega)] at cb
    exact long9_a H m h1 h2 (by omega) (by omega) w hg _ _ (Lib.hid rfl) (Lib.hid rfl) (Lib.hid ca) (Lib.hid cb)
  · rw [ga h20] at ca
    by_cases h100 : m ≤ 100
    · rw [fb h100] at cb
      exact long9_b H m h1 h2 (by omega) (by omega) w hg _ _ (Lib.hid rfl) (Lib.hid rfl) (Lib.hid ca) (Lib.hid cb)
    · rw [gb h100] at cb
      exact long9_c H m h1 h2 (by omega) (by omega) w hg _ _ (Lib.hid rfl) (Lib.hid rfl) (Lib.hid ca) (Lib.hid cb)
end Go.Proofs.YtcckifhloabpkaaDoor
