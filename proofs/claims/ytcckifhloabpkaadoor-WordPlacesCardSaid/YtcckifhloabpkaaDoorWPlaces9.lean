/- The walk of WordPlaces. -/
import Derived.Test.YtcckifhloabpkaaDoorWLexes9
namespace Go.Proofs.YtcckifhloabpkaaDoor
open Go.RowKit
set_option linter.unusedSimpArgs false
set_option linter.unusedVariables false
open Wd (Tk printT ktT lexAt lexD shT shP)
variable {G : World → Prop}
theorem lex_bound : ∀ (l : List UInt8) (ln c : Nat), (∀ t ∈ (lexAt l ln c).1, t.line ≤ ln + l.length ∧ t.col ≤ c + l.length + 1) ∧ ∀ p, (lexAt l ln c).2 = some p → p.1 ≤ ln + l.length ∧ p.2 ≤ c + l.length + 1 := by
  refine Wd.lex_ind (fun ln c => ?_) (fun r ih ln c => ?_) (fun r ih ln c => ?_) (fun x r e1 e2 e ln c => ?_) (fun x r kd m e1 e2 e ih ln c => ?_)
  · rw [Wd.lex_nil]; exact ⟨fun _ h => (by cases h), fun _ h => (by cases h)⟩
  · rw [Wd.lex_blank, List.length_cons]
    obtain ⟨a, b⟩ := ih ln (c + 1)
    exact ⟨fun t ht => by have := a t ht; omega, fun p hp => by have := b p hp; omega⟩
  · rw [Wd.lex_line, List.length_cons]
    obtain ⟨a, b⟩ := ih (ln + 1) 1
    exact ⟨fun t ht => by have := a t ht; omega, fun p hp => by have := b p hp; omega⟩
  · rw [Wd.lex_bad ln c e1 e2 e]
    exact ⟨fun _ h => (by cases h), fun p hp => by cases hp; exact ⟨Nat.le_add_right _ _, by dsimp only; omega⟩⟩
  · rw [Wd.lex_tok ln c e1 e2 e]
    have h := Wd.kl_len e
    obtain ⟨a, b⟩ := ih ln (c + m)
    rw [List.length_drop] at a b
    refine ⟨fun t ht => ?_, fun p hp => by have := b p hp; omega⟩
    rcases List.mem_cons.1 ht with rfl | ht
    · exact ⟨Nat.le_add_right _ _, by dsimp only; omega⟩
    · have := a t ht; omega
theorem lex_ahead (l : List UInt8) (L B : Nat) : lexAt (List.replicate L 10 ++ (List.replicate B 32 ++ l)) 1 1 = lexAt l (1 + L) (1 + B) := by
  by_cases h : 0 < L
  · rw [Wd.lex_lines _ L 1 1 h, Wd.lex_blanks]
  · obtain rfl : L = 0 := by omega
    exact Wd.lex_blanks l 1 B 1
set_option maxRecDepth 100000 in
set_option maxHeartbeats 4000000 in
theorem places9_0 (H : WordC G) (s : ByteArray) (n m : Int) (h1 : (3000 : Int) < (s.size : Int)) (w : World) (hg : G w) : Calls Tryd.prog 5 #[.string s, .int .i64 n, .int .i64 m] w (GiveB w true) := by
  have HB := Lib.hid H; have HG := Lib.hid hg; clear H hg
  go_enter Tryd.func5, Tryd.ntmps5
  go_wp2_with fail
  have b0 := Below.refl w.heap.size w
  refine (fixed9_any HB.out _ HG.out).mono ?_
  rintro e w1 ⟨rfl, b⟩
  have b1 := Below.more b0 b
  clear b
  go_wp2_with fail
  refine (fixed9_any HB.out _ (HB.out.below HG.out b1)).mono ?_
  rintro e w2 ⟨rfl, b⟩
  have b2 := Below.more b1 b
  clear b
  go_wp2_with fail
  go_ret
  exact ⟨rfl, b2⟩
set_option maxRecDepth 100000 in
set_option maxHeartbeats 4000000 in
theorem places9_1 (H : WordC G) (s : ByteArray) (n m : Int) (h1 : ¬ (3000 : Int) < (s.size : Int)) (h2 : n < 0) (w : World) (hg : G w) : Calls Tryd.prog 5 #[.string s, .int .i64 n, .int .i64 m] w (GiveB w true) := by
  have HB := Lib.hid H; have HG := Lib.hid hg; clear H hg
  go_enter Tryd.func5, Tryd.ntmps5
  go_wp2_with fail
  have b0 := Below.refl w.heap.size w
  refine (fixed9_any HB.out _ HG.out).mono ?_
  rintro e w1 ⟨rfl, b⟩
  have b1 := Below.more b0 b
  clear b
  go_wp2_with fail
  refine (fixed9_any HB.out _ (HB.out.below HG.out b1)).mono ?_
  rintro e w2 ⟨rfl, b⟩
  have b2 := Below.more b1 b
  clear b
  go_wp2_with fail
  go_ret
  exact ⟨rfl, b2⟩
set_option maxRecDepth 100000 in
set_option maxHeartbeats 4000000 in
theorem places9_2 (H : WordC G) (s : ByteArray) (n m : Int) (h1 : ¬ (3000 : Int) < (s.size : Int)) (h2 : ¬ n < 0) (h3 : m < 0) (w : World) (hg : G w) : Calls Tryd.prog 5 #[.string s, .int .i64 n, .int .i64 m] w (GiveB w true) := by
  have HB := Lib.hid H; have HG := Lib.hid hg; clear H hg
  go_enter Tryd.func5, Tryd.ntmps5
  go_wp2_with fail
  have b0 := Below.refl w.heap.size w
  refine (fixed9_any HB.out _ HG.out).mono ?_
  rintro e w1 ⟨rfl, b⟩
  have b1 := Below.more b0 b
  clear b
  go_wp2_with fail
  refine (fixed9_any HB.out _ (HB.out.below HG.out b1)).mono ?_
  rintro e w2 ⟨rfl, b⟩
  have b2 := Below.more b1 b
  clear b
  go_wp2_with fail
  go_ret
  exact ⟨rfl, b2⟩
set_option maxRecDepth 100000 in
set_option maxHeartbeats 4000000 in
theorem places9_3 (H : WordC G) (s : ByteArray) (n m : Int) (h1 : ¬ (3000 : Int) < (s.size : Int)) (h2 : ¬ n < 0) (h3 : ¬ m < 0) (h4 : 100 < n) (w : World) (hg : G w) : Calls Tryd.prog 5 #[.string s, .int .i64 n, .int .i64 m] w (GiveB w true) := by
  have HB := Lib.hid H; have HG := Lib.hid hg; clear H hg
  go_enter Tryd.func5, Tryd.ntmps5
  go_wp2_with fail
  have b0 := Below.refl w.heap.size w
  refine (fixed9_any HB.out _ HG.out).mono ?_
  rintro e w1 ⟨rfl, b⟩
  have b1 := Below.more b0 b
  clear b
  go_wp2_with fail
  refine (fixed9_any HB.out _ (HB.out.below HG.out b1)).mono ?_
  rintro e w2 ⟨rfl, b⟩
  have b2 := Below.more b1 b
  clear b
  go_wp2_with fail
  go_ret
  exact ⟨rfl, b2⟩
set_option maxRecDepth 100000 in
set_option maxHeartbeats 4000000 in
theorem places9_4 (H : WordC G) (s : ByteArray) (n m : Int) (h1 : ¬ (3000 : Int) < (s.size : Int)) (h2 : ¬ n < 0) (h3 : ¬ m < 0) (h4 : ¬ 100 < n) (h5 : 100 < m) (w : World) (hg : G w) : Calls Tryd.prog 5 #[.string s, .int .i64 n, .int .i64 m] w (GiveB w true) := by
  have HB := Lib.hid H; have HG := Lib.hid hg; clear H hg
  go_enter Tryd.func5, Tryd.ntmps5
  go_wp2_with fail
  have b0 := Below.refl w.heap.size w
  refine (fixed9_any HB.out _ HG.out).mono ?_
  rintro e w1 ⟨rfl, b⟩
  have b1 := Below.more b0 b
  clear b
  go_wp2_with fail
  refine (fixed9_any HB.out _ (HB.out.below HG.out b1)).mono ?_
  rintro e w2 ⟨rfl, b⟩
  have b2 := Below.more b1 b
  clear b
  go_wp2_with fail
  go_ret
  exact ⟨rfl, b2⟩
set_option maxRecDepth 100000 in
set_option maxHeartbeats 4000000 in
theorem places9_ea (H : WordC G) (s T : ByteArray) (n m : Nat) (h1 : ¬ (3000 : Int) < (s.size : Int)) (h2 : ¬ (n : Int) < 0) (h3 : ¬ (m : Int) < 0) (h4 : ¬ 100 < (n : Int)) (h5 : ¬ 100 < (m : Int)) (w : World) (hg : G w) (HT : Hid (List.replicate m 10 ++ (List.replicate n 32 ++ s.data.toList) = T.data.toList)) (p q v r : Nat) (hpb : (p : Int) ≤ 10000) (hqb : (q : Int) ≤ 10000) (F1 : Hid (((v : Int) == (p : Int) + (m : Int)) = true)) (F2 : Hid (((r : Int) == (q : Int) + (n : Int)) = true)) (F3 : Hid (((p : Int) == 1) = true))
    (CL : Hid (∀ V, G V → Calls Tryd.prog 9 #[.string s] V (GiveLex V ([], 90, p, q))))
    (CT : Hid (∀ V, G V → Calls Tryd.prog 9 #[.string T] V (GiveLex V ([], 90, v, r)))) :
    Calls Tryd.prog 5 #[.string s, .int .i64 (n : Int), .int .i64 (m : Int)] w (GiveB w true) := by
  have HB := Lib.hid H; have HG := Lib.hid hg; clear H hg
  go_enter Tryd.func5, Tryd.ntmps5
  go_wp2_with fail
  have b0 := Below.refl w.heap.size w
  refine (fixed9_any HB.out _ HG.out).mono ?_
  rintro e w1 ⟨rfl, b⟩
  have b1 := Below.more b0 b
  clear b
  go_wp2_with fail
  go_loopw [7, 8] (fun tv iv wr => ∃ (k : Nat) (S : ByteArray), k ≤ n ∧ iv = .int .i64 k ∧ tv = .string S ∧ S.size = k + s.size ∧ Hid (S.data.toList = List.replicate k 32 ++ s.data.toList) ∧ Below w.heap.size w wr) (fun _ iv _ => n - (intOf iv).toNat)
  case atStart => exact ⟨0, s, Nat.zero_le _, rfl, rfl, (Nat.zero_add _).symm, Lib.hid rfl, b1⟩
  case round =>
    obtain ⟨k, S, hk, rfl, rfl, hs, HS, hw⟩ := hrel
    have HW := Lib.hid hw
    clear hw b1
    by_cases hlt : k < n
    · have hki : (k : Int) < (n : Int) := by omega
      have HS2 : Hid (((⟨#[32]⟩ : ByteArray) ++ S).data.toList = List.replicate (k + 1) 32 ++ s.data.toList) := Lib.hid (by rw [ba_append, HS.out]; rfl)
      have s1 : (⟨#[32]⟩ : ByteArray).size = 1 := rfl
      go_wp2_with fail
      go_roundw
      case rel => exact ⟨k + 1, _, hlt, by go_num, rfl, by rw [ByteArray.size_append, hs, s1]; omega, HS2, HW.out⟩
      case measure => simp [intOf]; omega
    · obtain rfl : k = n := by omega
      generalize hv : w.heap.size = V at *
      go_wp2_with fail
      go_loopw [7, 9] (fun tv iv wr => ∃ (j : Nat) (S' : ByteArray), j ≤ m ∧ iv = .int .i64 j ∧ tv = .string S' ∧ S'.size = j + (k + s.size) ∧ Hid (S'.data.toList = List.replicate j 10 ++ (List.replicate k 32 ++ s.data.toList)) ∧ Below V w wr) (fun _ iv _ => m - (intOf iv).toNat)
      case atStart => exact ⟨0, S, Nat.zero_le _, rfl, rfl, by omega, HS, HW.out⟩
      case round =>
        obtain ⟨j, S', hj, rfl, rfl, hs', HS', hw'⟩ := hrel
        have HW' := Lib.hid hw'
        clear hw' HW
        by_cases hlt : j < m
        · have hji : (j : Int) < (m : Int) := by omega
          have HS2 : Hid (((⟨#[10]⟩ : ByteArray) ++ S').data.toList = List.replicate (j + 1) 10 ++ (List.replicate k 32 ++ s.data.toList)) := Lib.hid (by rw [ba_append, HS'.out]; rfl)
          have s1 : (⟨#[10]⟩ : ByteArray).size = 1 := rfl
          go_wp2_with fail
          go_roundw
          case rel => exact ⟨j + 1, _, hlt, by go_num, rfl, by rw [ByteArray.size_append, hs', s1]; omega, HS2, HW'.out⟩
          case measure => simp [intOf]; omega
        · obtain rfl : j = m := by omega
          obtain rfl : S' = T := bytes_eq (HS'.out.trans HT.out)
          subst hv
          have b1 := HW'.out
          clear HS HS' HT HW' hs hs'
          go_wp2_with fail
          refine (CL.out _ (HB.out.below HG.out b1)).mono ?_
          rintro e w2 ⟨⟨p1, c1, rfl, hc1, l1⟩, b⟩
          have b2 := Below.more b1 b
          have L1 := Lib.hid l1
          clear l1 b b1
          go_wp2_with fail
          refine (CT.out _ (HB.out.below HG.out b2)).mono ?_
          rintro e w3 ⟨⟨p2, c2, rfl, hc2, l2⟩, b⟩
          have b3 := Below.more b2 b
          have LX := Lib.hid (RowsG.below L1.out b)
          have LY := Lib.hid l2
          clear l2 b L1 b2
          have hsm := rlalike_any p1 p2 c1 c2 [] [] w3 (by simp) (by simp) LX.out LY.out
          rw [decide_eq_true rfl] at hsm
          go_wp2_with fail
          refine hsm.mono ?_
          rintro e w6 ⟨rfl, b⟩
          have b6 := Below.more b3 b
          have LX6 := Lib.hid (RowsG.below LX.out b)
          have LY6 := Lib.hid (RowsG.below LY.out b)
          clear b hsm LX LY b3
          have w1 : wrap64 ((p : Int) + (j : Int)) = (p : Int) + (j : Int) := IntWalk.wrap64_in _ ⟨by omega, by omega⟩
          have w2' : wrap64 ((q : Int) + (k : Int)) = (q : Int) + (k : Int) := IntWalk.wrap64_in _ ⟨by omega, by omega⟩
          have f1 := F1.out
          have f2 := F2.out
          have f3 := F3.out
          go_wp2_with fail
          go_ret
          exact ⟨ret_bool (by first | rfl | simp [*]), b6⟩
set_option maxRecDepth 100000 in
set_option maxHeartbeats 4000000 in
theorem places9_eb (H : WordC G) (s T : ByteArray) (n m : Nat) (h1 : ¬ (3000 : Int) < (s.size : Int)) (h2 : ¬ (n : Int) < 0) (h3 : ¬ (m : Int) < 0) (h4 : ¬ 100 < (n : Int)) (h5 : ¬ 100 < (m : Int)) (w : World) (hg : G w) (HT : Hid (List.replicate m 10 ++ (List.replicate n 32 ++ s.data.toList) = T.data.toList)) (p q v r : Nat) (hpb : (p : Int) ≤ 10000) (hqb : (q : Int) ≤ 10000) (F1 : Hid (((v : Int) == (p : Int) + (m : Int)) = true)) (F2 : Hid (((r : Int) == (q : Int) + (n : Int)) = true)) (F3 : Hid (((p : Int) == 1) = false)) (F4 : Hid (((r : Int) == (q : Int)) = true)) (F5 : Hid (decide (1 < (p : Int)) = true))
    (CL : Hid (∀ V, G V → Calls Tryd.prog 9 #[.string s] V (GiveLex V ([], 90, p, q))))
    (CT : Hid (∀ V, G V → Calls Tryd.prog 9 #[.string T] V (GiveLex V ([], 90, v, r)))) :
    Calls Tryd.prog 5 #[.string s, .int .i64 (n : Int), .int .i64 (m : Int)] w (GiveB w true) := by
  have HB := Lib.hid H; have HG := Lib.hid hg; clear H hg
  go_enter Tryd.func5, Tryd.ntmps5
  go_wp2_with fail
  have b0 := Below.refl w.heap.size w
  refine (fixed9_any HB.out _ HG.out).mono ?_
  rintro e w1 ⟨rfl, b⟩
  have b1 := Below.more b0 b
  clear b
  go_wp2_with fail
  go_loopw [7, 8] (fun tv iv wr => ∃ (k : Nat) (S : ByteArray), k ≤ n ∧ iv = .int .i64 k ∧ tv = .string S ∧ S.size = k + s.size ∧ Hid (S.data.toList = List.replicate k 32 ++ s.data.toList) ∧ Below w.heap.size w wr) (fun _ iv _ => n - (intOf iv).toNat)
  case atStart => exact ⟨0, s, Nat.zero_le _, rfl, rfl, (Nat.zero_add _).symm, Lib.hid rfl, b1⟩
  case round =>
    obtain ⟨k, S, hk, rfl, rfl, hs, HS, hw⟩ := hrel
    have HW := Lib.hid hw
    clear hw b1
    by_cases hlt : k < n
    · have hki : (k : Int) < (n : Int) := by omega
      have HS2 : Hid (((⟨#[32]⟩ : ByteArray) ++ S).data.toList = List.replicate (k + 1) 32 ++ s.data.toList) := Lib.hid (by rw [ba_append, HS.out]; rfl)
      have s1 : (⟨#[32]⟩ : ByteArray).size = 1 := rfl
      go_wp2_with fail
      go_roundw
      case rel => exact ⟨k + 1, _, hlt, by go_num, rfl, by rw [ByteArray.size_append, hs, s1]; omega, HS2, HW.out⟩
      case measure => simp [intOf]; omega
    · obtain rfl : k = n := by omega
      generalize hv : w.heap.size = V at *
      go_wp2_with fail
      go_loopw [7, 9] (fun tv iv wr => ∃ (j : Nat) (S' : ByteArray), j ≤ m ∧ iv = .int .i64 j ∧ tv = .string S' ∧ S'.size = j + (k + s.size) ∧ Hid (S'.data.toList = List.replicate j 10 ++ (List.replicate k 32 ++ s.data.toList)) ∧ Below V w wr) (fun _ iv _ => m - (intOf iv).toNat)
      case atStart => exact ⟨0, S, Nat.zero_le _, rfl, rfl, by omega, HS, HW.out⟩
      case round =>
        obtain ⟨j, S', hj, rfl, rfl, hs', HS', hw'⟩ := hrel
        have HW' := Lib.hid hw'
        clear hw' HW
        by_cases hlt : j < m
        · have hji : (j : Int) < (m : Int) := by omega
          have HS2 : Hid (((⟨#[10]⟩ : ByteArray) ++ S').data.toList = List.replicate (j + 1) 10 ++ (List.replicate k 32 ++ s.data.toList)) := Lib.hid (by rw [ba_append, HS'.out]; rfl)
          have s1 : (⟨#[10]⟩ : ByteArray).size = 1 := rfl
          go_wp2_with fail
          go_roundw
          case rel => exact ⟨j + 1, _, hlt, by go_num, rfl, by rw [ByteArray.size_append, hs', s1]; omega, HS2, HW'.out⟩
          case measure => simp [intOf]; omega
        · obtain rfl : j = m := by omega
          obtain rfl : S' = T := bytes_eq (HS'.out.trans HT.out)
          subst hv
          have b1 := HW'.out
          clear HS HS' HT HW' hs hs'
          go_wp2_with fail
          refine (CL.out _ (HB.out.below HG.out b1)).mono ?_
          rintro e w2 ⟨⟨p1, c1, rfl, hc1, l1⟩, b⟩
          have b2 := Below.more b1 b
          have L1 := Lib.hid l1
          clear l1 b b1
          go_wp2_with fail
          refine (CT.out _ (HB.out.below HG.out b2)).mono ?_
          rintro e w3 ⟨⟨p2, c2, rfl, hc2, l2⟩, b⟩
          have b3 := Below.more b2 b
          have LX := Lib.hid (RowsG.below L1.out b)
          have LY := Lib.hid l2
          clear l2 b L1 b2
          have hsm := rlalike_any p1 p2 c1 c2 [] [] w3 (by simp) (by simp) LX.out LY.out
          rw [decide_eq_true rfl] at hsm
          go_wp2_with fail
          refine hsm.mono ?_
          rintro e w6 ⟨rfl, b⟩
          have b6 := Below.more b3 b
          have LX6 := Lib.hid (RowsG.below LX.out b)
          have LY6 := Lib.hid (RowsG.below LY.out b)
          clear b hsm LX LY b3
          have w1 : wrap64 ((p : Int) + (j : Int)) = (p : Int) + (j : Int) := IntWalk.wrap64_in _ ⟨by omega, by omega⟩
          have w2' : wrap64 ((q : Int) + (k : Int)) = (q : Int) + (k : Int) := IntWalk.wrap64_in _ ⟨by omega, by omega⟩
          have f1 := F1.out
          have f2 := F2.out
          have f3 := F3.out
          have f4 := F4.out
          have f5 := F5.out
          go_wp2_with fail
          go_ret
          exact ⟨ret_bool (by first | rfl | simp [*]), b6⟩
set_option maxRecDepth 100000 in
set_option maxHeartbeats 4000000 in
theorem places9_ec (H : WordC G) (s T : ByteArray) (n m : Nat) (h1 : ¬ (3000 : Int) < (s.size : Int)) (h2 : ¬ (n : Int) < 0) (h3 : ¬ (m : Int) < 0) (h4 : ¬ 100 < (n : Int)) (h5 : ¬ 100 < (m : Int)) (w : World) (hg : G w) (HT : Hid (List.replicate m 10 ++ (List.replicate n 32 ++ s.data.toList) = T.data.toList)) (p q v r : Nat) (hpb : (p : Int) ≤ 10000) (hqb : (q : Int) ≤ 10000) (F1 : Hid (((v : Int) == (p : Int) + (m : Int)) = true)) (F2 : Hid (((r : Int) == (q : Int) + (n : Int)) = false)) (F4 : Hid (((r : Int) == (q : Int)) = true)) (F5 : Hid (decide (1 < (p : Int)) = true))
    (CL : Hid (∀ V, G V → Calls Tryd.prog 9 #[.string s] V (GiveLex V ([], 90, p, q))))
    (CT : Hid (∀ V, G V → Calls Tryd.prog 9 #[.string T] V (GiveLex V ([], 90, v, r)))) :
    Calls Tryd.prog 5 #[.string s, .int .i64 (n : Int), .int .i64 (m : Int)] w (GiveB w true) := by
  have HB := Lib.hid H; have HG := Lib.hid hg; clear H hg
  go_enter Tryd.func5, Tryd.ntmps5
  go_wp2_with fail
  have b0 := Below.refl w.heap.size w
  refine (fixed9_any HB.out _ HG.out).mono ?_
  rintro e w1 ⟨rfl, b⟩
  have b1 := Below.more b0 b
  clear b
  go_wp2_with fail
  go_loopw [7, 8] (fun tv iv wr => ∃ (k : Nat) (S : ByteArray), k ≤ n ∧ iv = .int .i64 k ∧ tv = .string S ∧ S.size = k + s.size ∧ Hid (S.data.toList = List.replicate k 32 ++ s.data.toList) ∧ Below w.heap.size w wr) (fun _ iv _ => n - (intOf iv).toNat)
  case atStart => exact ⟨0, s, Nat.zero_le _, rfl, rfl, (Nat.zero_add _).symm, Lib.hid rfl, b1⟩
  case round =>
    obtain ⟨k, S, hk, rfl, rfl, hs, HS, hw⟩ := hrel
    have HW := Lib.hid hw
    clear hw b1
    by_cases hlt : k < n
    · have hki : (k : Int) < (n : Int) := by omega
      have HS2 : Hid (((⟨#[32]⟩ : ByteArray) ++ S).data.toList = List.replicate (k + 1) 32 ++ s.data.toList) := Lib.hid (by rw [ba_append, HS.out]; rfl)
      have s1 : (⟨#[32]⟩ : ByteArray).size = 1 := rfl
      go_wp2_with fail
      go_roundw
      case rel => exact ⟨k + 1, _, hlt, by go_num, rfl, by rw [ByteArray.size_append, hs, s1]; omega, HS2, HW.out⟩
      case measure => simp [intOf]; omega
    · obtain rfl : k = n := by omega
      generalize hv : w.heap.size = V at *
      go_wp2_with fail
      go_loopw [7, 9] (fun tv iv wr => ∃ (j : Nat) (S' : ByteArray), j ≤ m ∧ iv = .int .i64 j ∧ tv = .string S' ∧ S'.size = j + (k + s.size) ∧ Hid (S'.data.toList = List.replicate j 10 ++ (List.replicate k 32 ++ s.data.toList)) ∧ Below V w wr) (fun _ iv _ => m - (intOf iv).toNat)
      case atStart => exact ⟨0, S, Nat.zero_le _, rfl, rfl, by omega, HS, HW.out⟩
      case round =>
        obtain ⟨j, S', hj, rfl, rfl, hs', HS', hw'⟩ := hrel
        have HW' := Lib.hid hw'
        clear hw' HW
        by_cases hlt : j < m
        · have hji : (j : Int) < (m : Int) := by omega
          have HS2 : Hid (((⟨#[10]⟩ : ByteArray) ++ S').data.toList = List.replicate (j + 1) 10 ++ (List.replicate k 32 ++ s.data.toList)) := Lib.hid (by rw [ba_append, HS'.out]; rfl)
          have s1 : (⟨#[10]⟩ : ByteArray).size = 1 := rfl
          go_wp2_with fail
          go_roundw
          case rel => exact ⟨j + 1, _, hlt, by go_num, rfl, by rw [ByteArray.size_append, hs', s1]; omega, HS2, HW'.out⟩
          case measure => simp [intOf]; omega
        · obtain rfl : j = m := by omega
          obtain rfl : S' = T := bytes_eq (HS'.out.trans HT.out)
          subst hv
          have b1 := HW'.out
          clear HS HS' HT HW' hs hs'
          go_wp2_with fail
          refine (CL.out _ (HB.out.below HG.out b1)).mono ?_
          rintro e w2 ⟨⟨p1, c1, rfl, hc1, l1⟩, b⟩
          have b2 := Below.more b1 b
          have L1 := Lib.hid l1
          clear l1 b b1
          go_wp2_with fail
          refine (CT.out _ (HB.out.below HG.out b2)).mono ?_
          rintro e w3 ⟨⟨p2, c2, rfl, hc2, l2⟩, b⟩
          have b3 := Below.more b2 b
          have LX := Lib.hid (RowsG.below L1.out b)
          have LY := Lib.hid l2
          clear l2 b L1 b2
          have hsm := rlalike_any p1 p2 c1 c2 [] [] w3 (by simp) (by simp) LX.out LY.out
          rw [decide_eq_true rfl] at hsm
          go_wp2_with fail
          refine hsm.mono ?_
          rintro e w6 ⟨rfl, b⟩
          have b6 := Below.more b3 b
          have LX6 := Lib.hid (RowsG.below LX.out b)
          have LY6 := Lib.hid (RowsG.below LY.out b)
          clear b hsm LX LY b3
          have w1 : wrap64 ((p : Int) + (j : Int)) = (p : Int) + (j : Int) := IntWalk.wrap64_in _ ⟨by omega, by omega⟩
          have w2' : wrap64 ((q : Int) + (k : Int)) = (q : Int) + (k : Int) := IntWalk.wrap64_in _ ⟨by omega, by omega⟩
          have f1 := F1.out
          have f2 := F2.out
          have f4 := F4.out
          have f5 := F5.out
          go_wp2_with fail
          go_ret
          exact ⟨ret_bool (by first | rfl | simp [*]), b6⟩
def PlT (n m : Nat) (x y : Tk) : Prop := wrap64 ((x.line : Int) + (m : Int)) = (x.line : Int) + (m : Int) ∧ IntKind.i64.wrap ((x.line : Int) + (m : Int)) = (x.line : Int) + (m : Int) ∧ wrap64 ((x.col : Int) + (n : Int)) = (x.col : Int) + (n : Int) ∧ IntKind.i64.wrap ((x.col : Int) + (n : Int)) = (x.col : Int) + (n : Int) ∧ ((y.line : Int) != (x.line : Int) + (m : Int)) = false ∧
  if x.line = 1 then ((x.line : Int) == 1) = true ∧ ((y.col : Int) != (x.col : Int) + (n : Int)) = false else ((x.line : Int) == 1) = false ∧ ((y.col : Int) != (x.col : Int)) = false
theorem plT_of {n m : Nat} {x : Tk} (hn : n ≤ 100) (hm : m ≤ 100) (h1 : x.line ≤ 10000) (h2 : x.col ≤ 10000) : PlT n m x (shT 1 m n x) := by
  unfold PlT shT
  refine ⟨IntWalk.wrap64_in _ ⟨by omega, by omega⟩, IntWalk.i64_in _ (by omega), IntWalk.wrap64_in _ ⟨by omega, by omega⟩, IntWalk.i64_in _ (by omega), by rw [bne_eq_false_iff_eq]; dsimp only; omega, ?_⟩
  split
  · exact ⟨by rw [beq_iff_eq]; omega, by rw [bne_eq_false_iff_eq]; dsimp only; omega⟩
  · exact ⟨by rw [beq_eq_false_iff_ne]; omega, by rw [bne_eq_false_iff_eq]⟩
set_option maxRecDepth 100000 in
set_option maxHeartbeats 4000000 in
theorem places9_main (H : WordC G) (s T : ByteArray) (n m : Nat) (h1 : ¬ (3000 : Int) < (s.size : Int)) (h2 : ¬ (n : Int) < 0) (h3 : ¬ (m : Int) < 0) (h4 : ¬ 100 < (n : Int)) (h5 : ¬ 100 < (m : Int)) (w : World) (hg : G w) (HT : Hid (List.replicate m 10 ++ (List.replicate n 32 ++ s.data.toList) = T.data.toList)) (X Y : List Tk) (hX : X.length ≤ 10000) (hY : Y.length = X.length) (hXY : X.map ktT = Y.map ktT)
    (HR : Hid (∀ (i : Nat) (x y : Tk), X[i]? = some x → Y[i]? = some y → PlT n m x y))
    (CL : Hid (∀ V, G V → Calls Tryd.prog 9 #[.string s] V (GiveLex V (X, 0, 0, 0))))
    (CT : Hid (∀ V, G V → Calls Tryd.prog 9 #[.string T] V (GiveLex V (Y, 0, 0, 0)))) :
    Calls Tryd.prog 5 #[.string s, .int .i64 (n : Int), .int .i64 (m : Int)] w (GiveB w true) := by
  have HB := Lib.hid H; have HG := Lib.hid hg; clear H hg
  go_enter Tryd.func5, Tryd.ntmps5
  go_wp2_with fail
  have b0 := Below.refl w.heap.size w
  refine (fixed9_any HB.out _ HG.out).mono ?_
  rintro e w1 ⟨rfl, b⟩
  have b1 := Below.more b0 b
  clear b
  go_wp2_with fail
  go_loopw [7, 8] (fun tv iv wr => ∃ (k : Nat) (S : ByteArray), k ≤ n ∧ iv = .int .i64 k ∧ tv = .string S ∧ S.size = k + s.size ∧ Hid (S.data.toList = List.replicate k 32 ++ s.data.toList) ∧ Below w.heap.size w wr) (fun _ iv _ => n - (intOf iv).toNat)
  case atStart => exact ⟨0, s, Nat.zero_le _, rfl, rfl, (Nat.zero_add _).symm, Lib.hid rfl, b1⟩
  case round =>
    obtain ⟨k, S, hk, rfl, rfl, hs, HS, hw⟩ := hrel
    have HW := Lib.hid hw
    clear hw b1
    by_cases hlt : k < n
    · have hki : (k : Int) < (n : Int) := by omega
      have HS2 : Hid (((⟨#[32]⟩ : ByteArray) ++ S).data.toList = List.replicate (k + 1) 32 ++ s.data.toList) := Lib.hid (by rw [ba_append, HS.out]; rfl)
      have s1 : (⟨#[32]⟩ : ByteArray).size = 1 := rfl
      go_wp2_with fail
      go_roundw
      case rel => exact ⟨k + 1, _, hlt, by go_num, rfl, by rw [ByteArray.size_append, hs, s1]; omega, HS2, HW.out⟩
      case measure => simp [intOf]; omega
    · obtain rfl : k = n := by omega
      generalize hv : w.heap.size = V at *
      go_wp2_with fail
      go_loopw [7, 9] (fun tv iv wr => ∃ (j : Nat) (S' : ByteArray), j ≤ m ∧ iv = .int .i64 j ∧ tv = .string S' ∧ S'.size = j + (k + s.size) ∧ Hid (S'.data.toList = List.replicate j 10 ++ (List.replicate k 32 ++ s.data.toList)) ∧ Below V w wr) (fun _ iv _ => m - (intOf iv).toNat)
      case atStart => exact ⟨0, S, Nat.zero_le _, rfl, rfl, by omega, HS, HW.out⟩
      case round =>
        obtain ⟨j, S', hj, rfl, rfl, hs', HS', hw'⟩ := hrel
        have HW' := Lib.hid hw'
        clear hw' HW
        by_cases hlt : j < m
        · have hji : (j : Int) < (m : Int) := by omega
          have HS2 : Hid (((⟨#[10]⟩ : ByteArray) ++ S').data.toList = List.replicate (j + 1) 10 ++ (List.replicate k 32 ++ s.data.toList)) := Lib.hid (by rw [ba_append, HS'.out]; rfl)
          have s1 : (⟨#[10]⟩ : ByteArray).size = 1 := rfl
          go_wp2_with fail
          go_roundw
          case rel => exact ⟨j + 1, _, hlt, by go_num, rfl, by rw [ByteArray.size_append, hs', s1]; omega, HS2, HW'.out⟩
          case measure => simp [intOf]; omega
        · obtain rfl : j = m := by omega
          obtain rfl : S' = T := bytes_eq (HS'.out.trans HT.out)
          subst hv
          have b1 := HW'.out
          clear HS HS' HT HW' hs hs'
          go_wp2_with fail
          refine (CL.out _ (HB.out.below HG.out b1)).mono ?_
          rintro e w2 ⟨⟨p1, c1, rfl, hc1, l1⟩, b⟩
          have b2 := Below.more b1 b
          have L1 := Lib.hid l1
          clear l1 b b1
          go_wp2_with fail
          refine (CT.out _ (HB.out.below HG.out b2)).mono ?_
          rintro e w3 ⟨⟨p2, c2, rfl, hc2, l2⟩, b⟩
          have b3 := Below.more b2 b
          have LX := Lib.hid (RowsG.below L1.out b)
          have LY := Lib.hid l2
          clear l2 b L1 b2
          have hsm := rlalike_any p1 p2 c1 c2 X Y w3 (by omega) (by omega) LX.out LY.out
          rw [decide_eq_true hXY] at hsm
          rw [hY] at hsm
          go_wp2_with fail
          refine hsm.mono ?_
          rintro e w6 ⟨rfl, b⟩
          have b6 := Below.more b3 b
          have LX6 := Lib.hid (RowsG.below LX.out b)
          have LY6 := Lib.hid (RowsG.below LY.out b)
          clear b hsm LX LY b3
          go_wp2_with fail
          go_loopw [18, 19] (fun iv cv wr => ∃ i : Nat, i ≤ X.length ∧ iv = .int .i64 i ∧ Below w6.heap.size w6 wr) (fun iv _ _ => X.length - (intOf iv).toNat)
          case atStart => exact ⟨0, Nat.zero_le _, rfl, Below.refl _ _⟩
          case round =>
            obtain ⟨i, hi, rfl, hv⟩ := hrel
            have HV := Lib.hid hv
            clear hv
            by_cases hlt' : i < X.length
            · have hii : (i : Int) < (X.length : Int) := by omega
              obtain ⟨⟨xk, xt, xl, xc⟩, hx⟩ : ∃ x, X[i]? = some x := ⟨_, List.getElem?_eq_getElem (by omega)⟩
              obtain ⟨⟨yk, yt, yl, yc⟩, hy⟩ : ∃ y, Y[i]? = some y := ⟨_, List.getElem?_eq_getElem (by omega)⟩
              obtain ⟨bk, ok, rfl, k0, k1, k2, k3⟩ := toks_rule LX6.out hx
              obtain ⟨bk', ok', rfl, j0, j1, j2, j3⟩ := toks_rule LY6.out hy
              have q3 := HR.out i _ _ hx hy
              unfold PlT at q3
              dsimp only at k0 k1 k2 k3 j0 j1 j2 j3 q3
              obtain ⟨v1, v1', v2, v2', q1, q3⟩ := q3
              have k2' := k2 _ HV.out
              have k3' := k3 _ HV.out
              have hB := Lib.hid (Nat.le_refl w6.heap.size)
              have HLT := Lib.hid hlt'
              clear hx hy HR CL CT
              by_cases e : xl = 1
              · rw [if_pos e] at q3
                obtain ⟨q0, q2⟩ := q3
                clear e
                go_wp2_with fail
                refine wp_region_noPanic ?_
                refine wp_region_held_drew (S := fun w' => Below w6.heap.size w6 w') (by kernel_rfl) (HV.out.drew) (fun hH0 => ?_)
                refine wpAnyH_take (i := 0) (v := ?_) rfl (by kernel_rfl) (by kernel_rfl) (by kernel_rfl) (fun _ _ _ h => h) (Or.inl ⟨by rfl, ?_⟩) (by assumption) ?_
                rotate_left 1
                · (intro w hSw; (try dsimp only at hSw); go_simp <;> (with_reducible rfl))
                try simp only [Act.put, List.getElem_toArray, List.getElem_cons_succ, List.getElem_cons_zero, List.setIfInBounds_toArray, List.set_cons_zero, List.set_cons_succ]
                refine wpAnyH_take (i := 1) (v := ?_) rfl (by kernel_rfl) (by kernel_rfl) (by kernel_rfl) (fun _ _ _ h => h) (Or.inl ⟨by rfl, ?_⟩) (by assumption) ?_
                rotate_left 1
                · (intro w hSw; (try dsimp only at hSw); go_simp <;> (with_reducible rfl))
                try simp only [Act.put, List.getElem_toArray, List.getElem_cons_succ, List.getElem_cons_zero, List.setIfInBounds_toArray, List.set_cons_zero, List.set_cons_succ]
                refine wpAnyH_take (i := 2) (v := ?_) rfl (by kernel_rfl) (by kernel_rfl) (by kernel_rfl) (fun _ _ _ h => h) (Or.inl ⟨by rfl, ?_⟩) (by assumption) ?_
                rotate_left 1
                · (intro w hSw; (try dsimp only at hSw); go_simp <;> (with_reducible rfl))
                try simp only [Act.put, List.getElem_toArray, List.getElem_cons_succ, List.getElem_cons_zero, List.setIfInBounds_toArray, List.set_cons_zero, List.set_cons_succ]
                refine wpAnyH_take (i := 3) (v := ?_) rfl (by kernel_rfl) (by kernel_rfl) (by kernel_rfl) (fun _ _ _ h => h) (Or.inl ⟨by rfl, ?_⟩) (by assumption) ?_
                rotate_left 1
                · (intro w hSw; (try dsimp only at hSw); go_simp <;> (with_reducible rfl))
                try simp only [Act.put, List.getElem_toArray, List.getElem_cons_succ, List.getElem_cons_zero, List.setIfInBounds_toArray, List.set_cons_zero, List.set_cons_succ]
                refine wpAnyH_take (i := 4) (v := ?_) rfl (by kernel_rfl) (by kernel_rfl) (by kernel_rfl) (fun _ _ _ h => h) (Or.inl ⟨by rfl, ?_⟩) (by assumption) ?_
                rotate_left 1
                · (intro w hSw; (try dsimp only at hSw); go_simp <;> (with_reducible rfl))
                try simp only [Act.put, List.getElem_toArray, List.getElem_cons_succ, List.getElem_cons_zero, List.setIfInBounds_toArray, List.set_cons_zero, List.set_cons_succ]
                refine wpAnyH_take (i := 5) (v := ?_) rfl (by kernel_rfl) (by kernel_rfl) (by kernel_rfl) (fun _ _ _ h => h) (Or.inl ⟨by rfl, ?_⟩) (by assumption) ?_
                rotate_left 1
                · (intro w hSw; (try dsimp only at hSw); go_simp <;> (with_reducible rfl))
                try simp only [Act.put, List.getElem_toArray, List.getElem_cons_succ, List.getElem_cons_zero, List.setIfInBounds_toArray, List.set_cons_zero, List.set_cons_succ]
                refine wpAnyH_take (i := 6) (v := ?_) rfl (by kernel_rfl) (by kernel_rfl) (by kernel_rfl) (fun _ _ _ h => h) (Or.inl ⟨by rfl, ?_⟩) (by assumption) ?_
                rotate_left 1
                · (intro w hSw; (try dsimp only at hSw); go_simp <;> (with_reducible rfl))
                try simp only [Act.put, List.getElem_toArray, List.getElem_cons_succ, List.getElem_cons_zero, List.setIfInBounds_toArray, List.set_cons_zero, List.set_cons_succ]
                refine wpAnyH_take (i := 7) (v := ?_) rfl (by kernel_rfl) (by kernel_rfl) (by kernel_rfl) (fun _ _ _ h => h) (Or.inl ⟨by rfl, ?_⟩) (by assumption) ?_
                rotate_left 1
                · (intro w hSw; (try dsimp only at hSw); go_simp <;> (with_reducible rfl))
                try simp only [Act.put, List.getElem_toArray, List.getElem_cons_succ, List.getElem_cons_zero, List.setIfInBounds_toArray, List.set_cons_zero, List.set_cons_succ]
                refine wpAnyH_take (i := 8) (v := ?_) rfl (by kernel_rfl) (by kernel_rfl) (by kernel_rfl) (fun _ _ _ h => h) (Or.inl ⟨by rfl, ?_⟩) (by assumption) ?_
                rotate_left 1
                · (intro w hSw; (try dsimp only at hSw); go_simp <;> (with_reducible rfl))
                try simp only [Act.put, List.getElem_toArray, List.getElem_cons_succ, List.getElem_cons_zero, List.setIfInBounds_toArray, List.set_cons_zero, List.set_cons_succ]
                refine wpAnyH_take (i := 9) (v := ?_) rfl (by kernel_rfl) (by kernel_rfl) (by kernel_rfl) (fun _ _ _ h => h) (Or.inl ⟨by rfl, ?_⟩) (by assumption) ?_
                rotate_left 1
                · (intro w hSw; (try dsimp only at hSw); go_simp <;> (with_reducible rfl))
                try simp only [Act.put, List.getElem_toArray, List.getElem_cons_succ, List.getElem_cons_zero, List.setIfInBounds_toArray, List.set_cons_zero, List.set_cons_succ]
                refine wpAnyH_take (i := 10) (v := ?_) rfl (by kernel_rfl) (by kernel_rfl) (by kernel_rfl) (fun _ _ _ h => h) (Or.inl ⟨by rfl, ?_⟩) (by assumption) ?_
                rotate_left 1
                · (intro w hSw; (try dsimp only at hSw); go_simp <;> (with_reducible rfl))
                try simp only [Act.put, List.getElem_toArray, List.getElem_cons_succ, List.getElem_cons_zero, List.setIfInBounds_toArray, List.set_cons_zero, List.set_cons_succ]
                refine wpAnyH_take (i := 11) (v := ?_) rfl (by kernel_rfl) (by kernel_rfl) (by kernel_rfl) (fun _ _ _ h => h) (Or.inl ⟨by rfl, ?_⟩) (by assumption) ?_
                rotate_left 1
                · (intro w hSw; (try dsimp only at hSw); go_simp <;> (with_reducible rfl))
                try simp only [Act.put, List.getElem_toArray, List.getElem_cons_succ, List.getElem_cons_zero, List.setIfInBounds_toArray, List.set_cons_zero, List.set_cons_succ]
                refine wpAnyH_take (i := 12) (v := ?_) rfl (by kernel_rfl) (by kernel_rfl) (by kernel_rfl) (fun _ _ _ h => h) (Or.inl ⟨by rfl, ?_⟩) (by assumption) ?_
                rotate_left 1
                · (intro w hSw; (try dsimp only at hSw); go_simp <;> (with_reducible rfl))
                try simp only [Act.put, List.getElem_toArray, List.getElem_cons_succ, List.getElem_cons_zero, List.setIfInBounds_toArray, List.set_cons_zero, List.set_cons_succ]
                refine wpAnyH_take (i := 13) (v := ?_) rfl (by kernel_rfl) (by kernel_rfl) (by kernel_rfl) (fun _ _ _ h => h) (Or.inl ⟨by rfl, ?_⟩) (by assumption) ?_
                rotate_left 1
                · (intro w hSw; (try dsimp only at hSw); go_simp <;> (with_reducible rfl))
                try simp only [Act.put, List.getElem_toArray, List.getElem_cons_succ, List.getElem_cons_zero, List.setIfInBounds_toArray, List.set_cons_zero, List.set_cons_succ]
                refine wpAnyH_take (i := 14) (v := ?_) rfl (by kernel_rfl) (by kernel_rfl) (by kernel_rfl) (fun _ _ _ h => h) (Or.inl ⟨by rfl, ?_⟩) (by assumption) ?_
                rotate_left 1
                · (intro w hSw; (try dsimp only at hSw); go_simp <;> (with_reducible rfl))
                try simp only [Act.put, List.getElem_toArray, List.getElem_cons_succ, List.getElem_cons_zero, List.setIfInBounds_toArray, List.set_cons_zero, List.set_cons_succ]
                refine wpAnyH_take (i := 15) (v := ?_) rfl (by kernel_rfl) (by kernel_rfl) (by kernel_rfl) (fun _ _ _ h => h) (Or.inl ⟨by rfl, ?_⟩) (by assumption) ?_
                rotate_left 1
                · (intro w hSw; (try dsimp only at hSw); go_simp <;> (with_reducible rfl))
                try simp only [Act.put, List.getElem_toArray, List.getElem_cons_succ, List.getElem_cons_zero, List.setIfInBounds_toArray, List.set_cons_zero, List.set_cons_succ]
                refine wpAnyH_take (i := 16) (v := ?_) rfl (by kernel_rfl) (by kernel_rfl) (by kernel_rfl) (fun _ _ _ h => h) (Or.inl ⟨by rfl, ?_⟩) (by assumption) ?_
                rotate_left 1
                · (intro w hSw; (try dsimp only at hSw); go_simp <;> (with_reducible rfl))
                try simp only [Act.put, List.getElem_toArray, List.getElem_cons_succ, List.getElem_cons_zero, List.setIfInBounds_toArray, List.set_cons_zero, List.set_cons_succ]
                refine wpAnyH_take (i := 17) (v := ?_) rfl (by kernel_rfl) (by kernel_rfl) (by kernel_rfl) (fun _ _ _ h => h) (Or.inl ⟨by rfl, ?_⟩) (by assumption) ?_
                rotate_left 1
                · (intro w hSw; (try dsimp only at hSw); go_simp <;> (with_reducible rfl))
                try simp only [Act.put, List.getElem_toArray, List.getElem_cons_succ, List.getElem_cons_zero, List.setIfInBounds_toArray, List.set_cons_zero, List.set_cons_succ]
                refine wpAnyH_take (i := 18) (v := ?_) rfl (by kernel_rfl) (by kernel_rfl) (by kernel_rfl) (fun _ _ _ h => h) (Or.inl ⟨by rfl, ?_⟩) (by assumption) ?_
                rotate_left 1
                · (intro w hSw; (try dsimp only at hSw); go_simp <;> (with_reducible rfl))
                try simp only [Act.put, List.getElem_toArray, List.getElem_cons_succ, List.getElem_cons_zero, List.setIfInBounds_toArray, List.set_cons_zero, List.set_cons_succ]
                refine wpAnyH_take (i := 19) (v := ?_) rfl (by kernel_rfl) (by kernel_rfl) (by kernel_rfl) (fun _ _ _ h => h) (Or.inl ⟨by rfl, ?_⟩) (by assumption) ?_
                rotate_left 1
                · (intro w hSw; (try dsimp only at hSw); go_simp <;> (with_reducible rfl))
                try simp only [Act.put, List.getElem_toArray, List.getElem_cons_succ, List.getElem_cons_zero, List.setIfInBounds_toArray, List.set_cons_zero, List.set_cons_succ]
                refine wpAnyH_take (i := 20) (v := ?_) rfl (by kernel_rfl) (by kernel_rfl) (by kernel_rfl) (fun _ _ _ h => h) (Or.inl ⟨by rfl, ?_⟩) (by assumption) ?_
                rotate_left 1
                · (intro w hSw; (try dsimp only at hSw); go_simp <;> (with_reducible rfl))
                try simp only [Act.put, List.getElem_toArray, List.getElem_cons_succ, List.getElem_cons_zero, List.setIfInBounds_toArray, List.set_cons_zero, List.set_cons_succ]
                refine wpAnyH_take (i := 21) (v := ?_) rfl (by kernel_rfl) (by kernel_rfl) (by kernel_rfl) (fun _ _ _ h => h) (Or.inl ⟨by rfl, ?_⟩) (by assumption) ?_
                rotate_left 1
                · (intro w hSw; (try dsimp only at hSw); go_simp <;> (with_reducible rfl))
                try simp only [Act.put, List.getElem_toArray, List.getElem_cons_succ, List.getElem_cons_zero, List.setIfInBounds_toArray, List.set_cons_zero, List.set_cons_succ]
                refine wpAnyH_done (by kernel_rfl) ?_ _
                refine NoPanic.normal ?_
                have b9 := hH0
                clear hH0
                go_wp2_with fail
                go_roundw
                case rel => exact ⟨i + 1, by have := HLT.out; omega, by go_num, b9⟩
                case measure => have := HLT.out; simp [intOf]; omega
              · rw [if_neg e] at q3
                obtain ⟨q0, q2⟩ := q3
                clear e
                go_wp2_with fail
                refine wp_region_noPanic ?_
                refine wp_region_held_drew (S := fun w' => Below w6.heap.size w6 w') (by kernel_rfl) (HV.out.drew) (fun hH0 => ?_)
                refine wpAnyH_take (i := 0) (v := ?_) rfl (by kernel_rfl) (by kernel_rfl) (by kernel_rfl) (fun _ _ _ h => h) (Or.inl ⟨by rfl, ?_⟩) (by assumption) ?_
                rotate_left 1
                · (intro w hSw; (try dsimp only at hSw); go_simp <;> (with_reducible rfl))
                try simp only [Act.put, List.getElem_toArray, List.getElem_cons_succ, List.getElem_cons_zero, List.setIfInBounds_toArray, List.set_cons_zero, List.set_cons_succ]
                refine wpAnyH_take (i := 1) (v := ?_) rfl (by kernel_rfl) (by kernel_rfl) (by kernel_rfl) (fun _ _ _ h => h) (Or.inl ⟨by rfl, ?_⟩) (by assumption) ?_
                rotate_left 1
                · (intro w hSw; (try dsimp only at hSw); go_simp <;> (with_reducible rfl))
                try simp only [Act.put, List.getElem_toArray, List.getElem_cons_succ, List.getElem_cons_zero, List.setIfInBounds_toArray, List.set_cons_zero, List.set_cons_succ]
                refine wpAnyH_take (i := 2) (v := ?_) rfl (by kernel_rfl) (by kernel_rfl) (by kernel_rfl) (fun _ _ _ h => h) (Or.inl ⟨by rfl, ?_⟩) (by assumption) ?_
                rotate_left 1
                · (intro w hSw; (try dsimp only at hSw); go_simp <;> (with_reducible rfl))
                try simp only [Act.put, List.getElem_toArray, List.getElem_cons_succ, List.getElem_cons_zero, List.setIfInBounds_toArray, List.set_cons_zero, List.set_cons_succ]
                refine wpAnyH_take (i := 3) (v := ?_) rfl (by kernel_rfl) (by kernel_rfl) (by kernel_rfl) (fun _ _ _ h => h) (Or.inl ⟨by rfl, ?_⟩) (by assumption) ?_
                rotate_left 1
                · (intro w hSw; (try dsimp only at hSw); go_simp <;> (with_reducible rfl))
                try simp only [Act.put, List.getElem_toArray, List.getElem_cons_succ, List.getElem_cons_zero, List.setIfInBounds_toArray, List.set_cons_zero, List.set_cons_succ]
                refine wpAnyH_take (i := 4) (v := ?_) rfl (by kernel_rfl) (by kernel_rfl) (by kernel_rfl) (fun _ _ _ h => h) (Or.inl ⟨by rfl, ?_⟩) (by assumption) ?_
                rotate_left 1
                · (intro w hSw; (try dsimp only at hSw); go_simp <;> (with_reducible rfl))
                try simp only [Act.put, List.getElem_toArray, List.getElem_cons_succ, List.getElem_cons_zero, List.setIfInBounds_toArray, List.set_cons_zero, List.set_cons_succ]
                refine wpAnyH_take (i := 5) (v := ?_) rfl (by kernel_rfl) (by kernel_rfl) (by kernel_rfl) (fun _ _ _ h => h) (Or.inl ⟨by rfl, ?_⟩) (by assumption) ?_
                rotate_left 1
                · (intro w hSw; (try dsimp only at hSw); go_simp <;> (with_reducible rfl))
                try simp only [Act.put, List.getElem_toArray, List.getElem_cons_succ, List.getElem_cons_zero, List.setIfInBounds_toArray, List.set_cons_zero, List.set_cons_succ]
                refine wpAnyH_take (i := 6) (v := ?_) rfl (by kernel_rfl) (by kernel_rfl) (by kernel_rfl) (fun _ _ _ h => h) (Or.inl ⟨by rfl, ?_⟩) (by assumption) ?_
                rotate_left 1
                · (intro w hSw; (try dsimp only at hSw); go_simp <;> (with_reducible rfl))
                try simp only [Act.put, List.getElem_toArray, List.getElem_cons_succ, List.getElem_cons_zero, List.setIfInBounds_toArray, List.set_cons_zero, List.set_cons_succ]
                refine wpAnyH_take (i := 7) (v := ?_) rfl (by kernel_rfl) (by kernel_rfl) (by kernel_rfl) (fun _ _ _ h => h) (Or.inl ⟨by rfl, ?_⟩) (by assumption) ?_
                rotate_left 1
                · (intro w hSw; (try dsimp only at hSw); go_simp <;> (with_reducible rfl))
                try simp only [Act.put, List.getElem_toArray, List.getElem_cons_succ, List.getElem_cons_zero, List.setIfInBounds_toArray, List.set_cons_zero, List.set_cons_succ]
                refine wpAnyH_take (i := 8) (v := ?_) rfl (by kernel_rfl) (by kernel_rfl) (by kernel_rfl) (fun _ _ _ h => h) (Or.inl ⟨by rfl, ?_⟩) (by assumption) ?_
                rotate_left 1
                · (intro w hSw; (try dsimp only at hSw); go_simp <;> (with_reducible rfl))
                try simp only [Act.put, List.getElem_toArray, List.getElem_cons_succ, List.getElem_cons_zero, List.setIfInBounds_toArray, List.set_cons_zero, List.set_cons_succ]
                refine wpAnyH_take (i := 9) (v := ?_) rfl (by kernel_rfl) (by kernel_rfl) (by kernel_rfl) (fun _ _ _ h => h) (Or.inl ⟨by rfl, ?_⟩) (by assumption) ?_
                rotate_left 1
                · (intro w hSw; (try dsimp only at hSw); go_simp <;> (with_reducible rfl))
                try simp only [Act.put, List.getElem_toArray, List.getElem_cons_succ, List.getElem_cons_zero, List.setIfInBounds_toArray, List.set_cons_zero, List.set_cons_succ]
                refine wpAnyH_take (i := 10) (v := ?_) rfl (by kernel_rfl) (by kernel_rfl) (by kernel_rfl) (fun _ _ _ h => h) (Or.inl ⟨by rfl, ?_⟩) (by assumption) ?_
                rotate_left 1
                · (intro w hSw; (try dsimp only at hSw); go_simp <;> (with_reducible rfl))
                try simp only [Act.put, List.getElem_toArray, List.getElem_cons_succ, List.getElem_cons_zero, List.setIfInBounds_toArray, List.set_cons_zero, List.set_cons_succ]
                refine wpAnyH_take (i := 11) (v := ?_) rfl (by kernel_rfl) (by kernel_rfl) (by kernel_rfl) (fun _ _ _ h => h) (Or.inl ⟨by rfl, ?_⟩) (by assumption) ?_
                rotate_left 1
                · (intro w hSw; (try dsimp only at hSw); go_simp <;> (with_reducible rfl))
                try simp only [Act.put, List.getElem_toArray, List.getElem_cons_succ, List.getElem_cons_zero, List.setIfInBounds_toArray, List.set_cons_zero, List.set_cons_succ]
                refine wpAnyH_take (i := 12) (v := ?_) rfl (by kernel_rfl) (by kernel_rfl) (by kernel_rfl) (fun _ _ _ h => h) (Or.inl ⟨by rfl, ?_⟩) (by assumption) ?_
                rotate_left 1
                · (intro w hSw; (try dsimp only at hSw); go_simp <;> (with_reducible rfl))
                try simp only [Act.put, List.getElem_toArray, List.getElem_cons_succ, List.getElem_cons_zero, List.setIfInBounds_toArray, List.set_cons_zero, List.set_cons_succ]
                refine wpAnyH_take (i := 13) (v := ?_) rfl (by kernel_rfl) (by kernel_rfl) (by kernel_rfl) (fun _ _ _ h => h) (Or.inl ⟨by rfl, ?_⟩) (by assumption) ?_
                rotate_left 1
                · (intro w hSw; (try dsimp only at hSw); go_simp <;> (with_reducible rfl))
                try simp only [Act.put, List.getElem_toArray, List.getElem_cons_succ, List.getElem_cons_zero, List.setIfInBounds_toArray, List.set_cons_zero, List.set_cons_succ]
                refine wpAnyH_take (i := 14) (v := ?_) rfl (by kernel_rfl) (by kernel_rfl) (by kernel_rfl) (fun _ _ _ h => h) (Or.inl ⟨by rfl, ?_⟩) (by assumption) ?_
                rotate_left 1
                · (intro w hSw; (try dsimp only at hSw); go_simp <;> (with_reducible rfl))
                try simp only [Act.put, List.getElem_toArray, List.getElem_cons_succ, List.getElem_cons_zero, List.setIfInBounds_toArray, List.set_cons_zero, List.set_cons_succ]
                refine wpAnyH_take (i := 15) (v := ?_) rfl (by kernel_rfl) (by kernel_rfl) (by kernel_rfl) (fun _ _ _ h => h) (Or.inl ⟨by rfl, ?_⟩) (by assumption) ?_
                rotate_left 1
                · (intro w hSw; (try dsimp only at hSw); go_simp <;> (with_reducible rfl))
                try simp only [Act.put, List.getElem_toArray, List.getElem_cons_succ, List.getElem_cons_zero, List.setIfInBounds_toArray, List.set_cons_zero, List.set_cons_succ]
                refine wpAnyH_take (i := 16) (v := ?_) rfl (by kernel_rfl) (by kernel_rfl) (by kernel_rfl) (fun _ _ _ h => h) (Or.inl ⟨by rfl, ?_⟩) (by assumption) ?_
                rotate_left 1
                · (intro w hSw; (try dsimp only at hSw); go_simp <;> (with_reducible rfl))
                try simp only [Act.put, List.getElem_toArray, List.getElem_cons_succ, List.getElem_cons_zero, List.setIfInBounds_toArray, List.set_cons_zero, List.set_cons_succ]
                refine wpAnyH_take (i := 17) (v := ?_) rfl (by kernel_rfl) (by kernel_rfl) (by kernel_rfl) (fun _ _ _ h => h) (Or.inl ⟨by rfl, ?_⟩) (by assumption) ?_
                rotate_left 1
                · (intro w hSw; (try dsimp only at hSw); go_simp <;> (with_reducible rfl))
                try simp only [Act.put, List.getElem_toArray, List.getElem_cons_succ, List.getElem_cons_zero, List.setIfInBounds_toArray, List.set_cons_zero, List.set_cons_succ]
                refine wpAnyH_take (i := 18) (v := ?_) rfl (by kernel_rfl) (by kernel_rfl) (by kernel_rfl) (fun _ _ _ h => h) (Or.inl ⟨by rfl, ?_⟩) (by assumption) ?_
                rotate_left 1
                · (intro w hSw; (try dsimp only at hSw); go_simp <;> (with_reducible rfl))
                try simp only [Act.put, List.getElem_toArray, List.getElem_cons_succ, List.getElem_cons_zero, List.setIfInBounds_toArray, List.set_cons_zero, List.set_cons_succ]
                refine wpAnyH_take (i := 19) (v := ?_) rfl (by kernel_rfl) (by kernel_rfl) (by kernel_rfl) (fun _ _ _ h => h) (Or.inl ⟨by rfl, ?_⟩) (by assumption) ?_
                rotate_left 1
                · (intro w hSw; (try dsimp only at hSw); go_simp <;> (with_reducible rfl))
                try simp only [Act.put, List.getElem_toArray, List.getElem_cons_succ, List.getElem_cons_zero, List.setIfInBounds_toArray, List.set_cons_zero, List.set_cons_succ]
                refine wpAnyH_take (i := 20) (v := ?_) rfl (by kernel_rfl) (by kernel_rfl) (by kernel_rfl) (fun _ _ _ h => h) (Or.inl ⟨by rfl, ?_⟩) (by assumption) ?_
                rotate_left 1
                · (intro w hSw; (try dsimp only at hSw); go_simp <;> (with_reducible rfl))
                try simp only [Act.put, List.getElem_toArray, List.getElem_cons_succ, List.getElem_cons_zero, List.setIfInBounds_toArray, List.set_cons_zero, List.set_cons_succ]
                refine wpAnyH_take (i := 21) (v := ?_) rfl (by kernel_rfl) (by kernel_rfl) (by kernel_rfl) (fun _ _ _ h => h) (Or.inl ⟨by rfl, ?_⟩) (by assumption) ?_
                rotate_left 1
                · (intro w hSw; (try dsimp only at hSw); go_simp <;> (with_reducible rfl))
                try simp only [Act.put, List.getElem_toArray, List.getElem_cons_succ, List.getElem_cons_zero, List.setIfInBounds_toArray, List.set_cons_zero, List.set_cons_succ]
                refine wpAnyH_done (by kernel_rfl) ?_ _
                refine NoPanic.normal ?_
                have b9 := hH0
                clear hH0
                go_wp2_with fail
                go_roundw
                case rel => exact ⟨i + 1, by have := HLT.out; omega, by go_num, b9⟩
                case measure => have := HLT.out; simp [intOf]; omega
            · have hii : ¬ (i : Int) < (X.length : Int) := by omega
              have b9 := Below.more b6 HV.out
              go_wp2_with fail
              go_ret
              exact ⟨rfl, b9⟩
theorem places9_any (H : WordC G) (s : ByteArray) (n m : Int) (w : World) (hg : G w) : Calls Tryd.prog 5 #[.string s, .int .i64 n, .int .i64 m] w (GiveB w true) := by
  by_cases h1 : (3000 : Int) < (s.size : Int)
  · exact places9_0 H s n m h1 w hg
  by_cases h2 : n < 0
  · exact places9_1 H s n m h1 h2 w hg
  by_cases h3 : m < 0
  · exact places9_2 H s n m h1 h2 h3 w hg
  by_cases h4 : 100 < n
  · exact places9_3 H s n m h1 h2 h3 h4 w hg
  by_cases h5 : 100 < m
  · exact places9_4 H s n m h1 h2 h3 h4 h5 w hg
  obtain ⟨n, rfl⟩ : ∃ k : Nat, n = (k : Int) := ⟨n.toNat, by omega⟩
  obtain ⟨m, rfl⟩ : ∃ k : Nat, m = (k : Int) := ⟨m.toNat, by omega⟩
  have hn : s.data.toList.length = s.size := size_toList s
  obtain ⟨T, hT⟩ : ∃ T : ByteArray, List.replicate m 10 ++ (List.replicate n 32 ++ s.data.toList) = T.data.toList := ⟨⟨(List.replicate m 10 ++ (List.replicate n 32 ++ s.data.toList)).toArray⟩, rfl⟩
  have hl : T.data.toList.length = m + (n + s.size) := by rw [← hT, List.length_append, List.length_append, List.length_replicate, List.length_replicate, hn]
  have hsT : T.size = m + (n + s.size) := (size_toList T).symm.trans hl
  have cl := fun V (hv : G V) => H.lex s V (by omega) hv
  have ct := fun V (hv : G V) => H.lex T V (by omega) hv
  have sh : lexAt T.data.toList 1 1 = _ := (congrArg (fun z => lexAt z 1 1) hT.symm).trans ((lex_ahead s.data.toList m n).trans (Wd.lex_shift s.data.toList 1 1 m n))
  have e0 : lexD s.data.toList = match (lexAt s.data.toList 1 1).2 with | none => ((lexAt s.data.toList 1 1).1, 0, 0, 0) | some p => ([], 90, p.1, p.2) := by unfold lexD; rw [if_neg (by omega)]; rfl
  have e1 : lexD T.data.toList = match (lexAt T.data.toList 1 1).2 with | none => ((lexAt T.data.toList 1 1).1, 0, 0, 0) | some p => ([], 90, p.1, p.2) := by unfold lexD; rw [if_neg (by omega)]; rfl
  rw [sh] at e1
  have hb := lex_bound s.data.toList 1 1
  have hll := lex_len s.data.toList 1 1
  cases h2' : (lexAt s.data.toList 1 1).2 with
  | some p =>
    rw [h2'] at e0 e1
    simp only [Option.map_some, Wd.shP] at e1
    rw [e0] at cl
    rw [e1] at ct
    have hp := (Wd.lex_from s.data.toList 1 1).2 p h2'
    have hq := hb.2 p h2'
    by_cases k1 : p.1 = 1
    · rw [if_pos k1] at ct
      exact places9_ea H s T n m h1 h2 h3 h4 h5 w hg (Lib.hid hT) p.1 p.2 _ _ (by omega) (by omega) (Lib.hid (beq_iff_eq.2 (by omega))) (Lib.hid (beq_iff_eq.2 (by omega))) (Lib.hid (beq_iff_eq.2 (by omega))) (Lib.hid cl) (Lib.hid ct)
    · rw [if_neg k1] at ct
      by_cases k2 : n = 0
      · exact places9_eb H s T n m h1 h2 h3 h4 h5 w hg (Lib.hid hT) p.1 p.2 _ _ (by omega) (by omega) (Lib.hid (beq_iff_eq.2 (by omega))) (Lib.hid (beq_iff_eq.2 (by omega))) (Lib.hid (beq_eq_false_iff_ne.2 (by omega))) (Lib.hid (beq_iff_eq.2 (by omega))) (Lib.hid (decide_eq_true (by omega))) (Lib.hid cl) (Lib.hid ct)
      · exact places9_ec H s T n m h1 h2 h3 h4 h5 w hg (Lib.hid hT) p.1 p.2 _ _ (by omega) (by omega) (Lib.hid (beq_iff_eq.2 (by omega))) (Lib.hid (beq_eq_false_iff_ne.2 (by omega))) (Lib.hid (beq_iff_eq.2 (by omega))) (Lib.hid (decide_eq_true (by omega))) (Lib.hid cl) (Lib.hid ct)
  | none =>
    rw [h2'] at e0 e1
    simp only [Option.map_none] at e1
    rw [e0] at cl
    rw [e1] at ct
    refine places9_main H s T n m h1 h2 h3 h4 h5 w hg (Lib.hid hT) (lexAt s.data.toList 1 1).1 _ (by omega) (List.length_map ..) (by rw [List.map_map]; rfl) (Lib.hid fun i x y hx hy => ?_) (Lib.hid cl) (Lib.hid ct)
    rw [List.getElem?_map, hx] at hy
    obtain rfl : Wd.shT 1 m n x = y := Option.some.inj hy
    have hz := hb.1 x (List.mem_of_getElem? hx)
    exact plT_of (by omega) (by omega) (by omega) (by omega)
end Go.Proofs.YtcckifhloabpkaaDoor
