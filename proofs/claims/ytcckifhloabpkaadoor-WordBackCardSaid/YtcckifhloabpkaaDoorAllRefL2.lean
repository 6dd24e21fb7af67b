/- The document's words on numbers and tokens. -/
import Derived.Test.YtcckifhloabpkaaDoorAllRefL
namespace Go.Proofs.YtcckifhloabpkaaDoor
open Go.RowKit
set_option linter.unusedSimpArgs false
set_option linter.unusedVariables false
theorem dot_at {s : ByteArray} {k : Nat} (h : k + 1 < s.size) : Wd.dotD (s.data.toList.drop k) = (decide ((s[k].toNat : Int) = 46) && Wd.isDig s[k + 1]) := by
  rw [drop_at s k (by omega), drop_at s (k + 1) h]
  by_cases e : (s[k].toNat : Int) = 46
  · have e2 : s[k] = 46 := UInt8.toNat_inj.1 (by show s[k].toNat = 46; omega)
    rw [e2]; rfl
  · have e2 : ¬ s[k] = 46 := fun c => e (by rw [c]; rfl)
    rw [Wd.dot_no e2, decide_eq_false e]; rfl
theorem dot_short {s : ByteArray} {k : Nat} (h : ¬ k + 1 < s.size) : Wd.dotD (s.data.toList.drop k) = false := by
  by_cases hk : k < s.size
  · rw [drop_at s k hk, List.drop_of_length_le (by rw [size_toList]; omega)]
    by_cases e : s[k] = 46
    · rw [e]; rfl
    · exact Wd.dot_no e []
  · rw [List.drop_of_length_le (by rw [size_toList]; omega)]; rfl
theorem num_at (l : List UInt8) (i k : Nat) (hk : k = i + Wd.run Wd.isDig (l.drop i)) : i + Wd.numL (l.drop i) = if Wd.dotD (l.drop k) then k + 1 + Wd.run Wd.isDig (l.drop (k + 1)) else k := by
  subst hk
  unfold Wd.numL
  rw [List.drop_drop, List.drop_drop]
  split
  · rw [show i + (Wd.run Wd.isDig (l.drop i) + 1) = i + Wd.run Wd.isDig (l.drop i) + 1 by omega]; omega
  · rfl
set_option maxRecDepth 100000 in
set_option maxHeartbeats 4000000 in
theorem rlnumber_any (s : ByteArray) (i : Nat) (w : World) (hi : i ≤ s.size) (hs : s.size ≤ 4611686018427387904) : Calls Tryd.prog 34 #[.string s, .int .i64 (i : Int)] w (GiveQ w (.int .i64 ((i + Wd.numL (s.data.toList.drop i) : Nat) : Int))) := by
  have c1 := fun w => rldigits_any s i w hi hs
  obtain ⟨k, hk⟩ : ∃ k, k = i + Wd.run Wd.isDig (s.data.toList.drop i) := ⟨_, rfl⟩
  have hks : k ≤ s.size := by have := Wd.run_le Wd.isDig (s.data.toList.drop i); rw [List.length_drop, size_toList] at this; omega
  have hn := num_at s.data.toList i k hk
  rw [← hk] at c1
  clear hk
  by_cases hlt : k + 1 < s.size
  · have hd := dot_at hlt
    have c2 := fun w => rldigits_any s (k + 1) w (by omega) hs
    have c3 := fun w => rldigit_any s[k + 1] w
    have hki : (k : Int) + 1 < (s.size : Int) := by omega
    by_cases e : (s[k].toNat : Int) = 46
    · cases hg : Wd.isDig s[k + 1] with
      | true =>
        rw [hg] at c3
        have HR : Hid (i + Wd.numL (s.data.toList.drop i) = k + 1 + Wd.run Wd.isDig (s.data.toList.drop (k + 1))) := Lib.hid (by rw [hn, hd, decide_eq_true e, hg]; rfl)
        have C1 := Lib.hid c1; have C2 := Lib.hid c2; have C3 := Lib.hid c3
        clear c1 c2 c3 hn hd hg
        go_enter Tryd.func34, Tryd.ntmps34
        go_wp2_with fail
        refine (C1.out _).mono ?_
        rintro e w' ⟨rfl, rfl⟩
        go_wp2_with fail
        refine (C3.out _).mono ?_
        rintro e w' ⟨rfl, rfl⟩
        go_wp2_with fail
        refine (C2.out _).mono ?_
        rintro e w' ⟨rfl, rfl⟩
        go_wp2_with fail
        go_ret
        exact ⟨ret_n (by rw [HR.out]), rfl⟩
      | false =>
        rw [hg] at c3
        have HR : Hid (i + Wd.numL (s.data.toList.drop i) = k) := Lib.hid (by rw [hn, hd, decide_eq_true e, hg]; rfl)
        have C1 := Lib.hid c1; have C3 := Lib.hid c3
        clear c1 c2 c3 hn hd hg
        go_enter Tryd.func34, Tryd.ntmps34
        go_wp2_with fail
        refine (C1.out _).mono ?_
        rintro e w' ⟨rfl, rfl⟩
        go_wp2_with fail
        refine (C3.out _).mono ?_
        rintro e w' ⟨rfl, rfl⟩
        go_wp2_with fail
        go_ret
        exact ⟨ret_n (by rw [HR.out]), rfl⟩
    · have HR : Hid (i + Wd.numL (s.data.toList.drop i) = k) := Lib.hid (by rw [hn, hd, decide_eq_false e]; rfl)
      have C1 := Lib.hid c1
      have e2 : ((s[k].toNat : Int) == 46) = false := beq_false_of_ne e
      clear c1 c2 c3 hn hd
      go_enter Tryd.func34, Tryd.ntmps34
      go_wp2_with fail
      refine (C1.out _).mono ?_
      rintro e w' ⟨rfl, rfl⟩
      go_wp2_with fail
      go_ret
      exact ⟨ret_n (by rw [HR.out]), rfl⟩
  · have HR : Hid (i + Wd.numL (s.data.toList.drop i) = k) := Lib.hid (by rw [hn, dot_short hlt]; rfl)
    have hki : ¬ (k : Int) + 1 < (s.size : Int) := by omega
    have C1 := Lib.hid c1
    clear c1 hn
    go_enter Tryd.func34, Tryd.ntmps34
    go_wp2_with fail
    refine (C1.out _).mono ?_
    rintro e w' ⟨rfl, rfl⟩
    go_wp2_with fail
    go_ret
    exact ⟨ret_n (by rw [HR.out]), rfl⟩
/-- A token's kind, and where it ends. -/
def tkE (l : List UInt8) (i : Nat) : Int × Int := match Wd.kl (l.drop i) with | some (kd, m) => ((kd : Int), ((i + m : Nat) : Int)) | none => (0, -1)
theorem tkE_yes {l : List UInt8} {i kd m : Nat} (h : Wd.kl (l.drop i) = some (kd, m)) : tkE l i = ((kd : Int), ((i + m : Nat) : Int)) := by unfold tkE; rw [h]
theorem tkE_no {l : List UInt8} {i : Nat} (h : Wd.kl (l.drop i) = none) : tkE l i = (0, -1) := by unfold tkE; rw [h]
theorem kl_at (s : ByteArray) (i : Nat) (h : i < s.size) : Wd.kl (s.data.toList.drop i) =
    if Wd.isLet s[i] then (if Wd.run Wd.isLD (s.data.toList.drop i) ≤ 20 then some (0, Wd.run Wd.isLD (s.data.toList.drop i)) else none)
    else if Wd.isDig s[i] then (if Wd.numL (s.data.toList.drop i) ≤ 100 then some (1, Wd.numL (s.data.toList.drop i)) else none)
    else if Wd.isSgn s[i] then some (2, 1) else none := by
  rw [drop_at s i h]; exact Wd.kl_cons _ _
theorem ret_ii {a b : Int} {p : Int × Int} (h : p = (a, b)) : Ending.returned (.tuple #[.int .i64 a, .int .i64 b]) = .returned (.tuple #[.int .i64 p.1, .int .i64 p.2]) := by rw [h]
set_option maxRecDepth 100000 in
set_option maxHeartbeats 4000000 in
theorem rltoken_any (s : ByteArray) (i : Nat) (w : World) (hi : i < s.size) (hs : s.size ≤ 4611686018427387904) : Calls Tryd.prog 20 #[.string s, .int .i64 (i : Int)] w (GiveQ w (.tuple #[.int .i64 (tkE s.data.toList i).1, .int .i64 (tkE s.data.toList i).2])) := by
  have hk := kl_at s i hi
  have c1 := fun w => rlletter_any s[i] w
  have c2 := fun w => rldigit_any s[i] w
  have c3 := fun w => rlsign_any s[i] w
  cases h1 : Wd.isLet s[i] with
  | true =>
    rw [h1, if_pos rfl] at hk
    rw [h1] at c1
    have cn := fun w => rlname_any s i w (by omega) hs
    generalize hm : Wd.run Wd.isLD (s.data.toList.drop i) = m at *
    have hmi : m ≤ s.size - i := by have := Wd.run_le Wd.isLD (s.data.toList.drop i); rw [List.length_drop, size_toList] at this; omega
    have hs1 : ((i + m : Nat) : Int) - (i : Int) = (m : Int) := by omega
    have C1 := Lib.hid c1; have CN := Lib.hid cn
    by_cases h20 : m ≤ 20
    · have HR := Lib.hid (tkE_yes (hk.trans (if_pos h20)))
      have h21 : ¬ (20 : Int) < (m : Int) := by omega
      clear c1 c2 c3 cn hk hm h1
      go_enter Tryd.func20, Tryd.ntmps20
      go_wp2_with fail
      refine (C1.out _).mono ?_
      rintro e w' ⟨rfl, rfl⟩
      go_wp2_with fail
      refine (CN.out _).mono ?_
      rintro e w' ⟨rfl, rfl⟩
      go_wp2_with fail
      refine bodyPost_ret (v := .tuple #[.int .i64 0, .int .i64 ((i + m : Nat) : Int)]) (by simp [results, Tryd.results20, go_sem, *]) rfl ?_
      exact ⟨ret_ii HR.out, rfl⟩
    · have HR := Lib.hid (tkE_no (hk.trans (if_neg h20)))
      have h21 : (20 : Int) < (m : Int) := by omega
      clear c1 c2 c3 cn hk hm h1
      go_enter Tryd.func20, Tryd.ntmps20
      go_wp2_with fail
      refine (C1.out _).mono ?_
      rintro e w' ⟨rfl, rfl⟩
      go_wp2_with fail
      refine (CN.out _).mono ?_
      rintro e w' ⟨rfl, rfl⟩
      go_wp2_with fail
      refine bodyPost_ret (v := .tuple #[.int .i64 0, .int .i64 (-1)]) (by simp [results, Tryd.results20, go_sem, *]) rfl ?_
      exact ⟨ret_ii HR.out, rfl⟩
  | false =>
    rw [h1, if_neg (by decide)] at hk
    rw [h1] at c1
    cases h2 : Wd.isDig s[i] with
    | true =>
      rw [h2, if_pos rfl] at hk
      rw [h2] at c2
      have cn := fun w => rlnumber_any s i w (by omega) hs
      generalize hm : Wd.numL (s.data.toList.drop i) = m at *
      have hmi : m ≤ s.size - i := by have := Wd.num_le (s.data.toList.drop i); rw [List.length_drop, size_toList] at this; omega
      have hs1 : ((i + m : Nat) : Int) - (i : Int) = (m : Int) := by omega
      have C1 := Lib.hid c1; have C2 := Lib.hid c2; have CN := Lib.hid cn
      by_cases h20 : m ≤ 100
      · have HR := Lib.hid (tkE_yes (hk.trans (if_pos h20)))
        have h21 : ¬ (100 : Int) < (m : Int) := by omega
        clear c1 c2 c3 cn hk hm h1 h2
        go_enter Tryd.func20, Tryd.ntmps20
        go_wp2_with fail
        refine (C1.out _).mono ?_
        rintro e w' ⟨rfl, rfl⟩
        go_wp2_with fail
        refine (C2.out _).mono ?_
        rintro e w' ⟨rfl, rfl⟩
        go_wp2_with fail
        refine (CN.out _).mono ?_
        rintro e w' ⟨rfl, rfl⟩
        go_wp2_with fail
        refine bodyPost_ret (v := .tuple #[.int .i64 1, .int .i64 ((i + m : Nat) : Int)]) (by simp [results, Tryd.results20, go_sem, *]) rfl ?_
        exact ⟨ret_ii HR.out, rfl⟩
      · have HR := Lib.hid (tkE_no (hk.trans (if_neg h20)))
        have h21 : (100 : Int) < (m : Int) := by omega
        clear c1 c2 c3 cn hk hm h1 h2
        go_enter Tryd.func20, Tryd.ntmps20
        go_wp2_with fail
        refine (C1.out _).mono ?_
        rintro e w' ⟨rfl, rfl⟩
        go_wp2_with fail
        refine (C2.out _).mono ?_
        rintro e w' ⟨rfl, rfl⟩
        go_wp2_with fail
        refine (CN.out _).mono ?_
        rintro e w' ⟨rfl, rfl⟩
        go_wp2_with fail
        refine bodyPost_ret (v := .tuple #[.int .i64 0, .int .i64 (-1)]) (by simp [results, Tryd.results20, go_sem, *]) rfl ?_
        exact ⟨ret_ii HR.out, rfl⟩
    | false =>
      rw [h2, if_neg (by decide)] at hk
      rw [h2] at c2
      cases h3 : Wd.isSgn s[i] with
      | true =>
        rw [h3, if_pos rfl] at hk
        rw [h3] at c3
        have HR := Lib.hid (tkE_yes hk)
        have C1 := Lib.hid c1; have C2 := Lib.hid c2; have C3 := Lib.hid c3
        clear c1 c2 c3 hk h1 h2 h3
        go_enter Tryd.func20, Tryd.ntmps20
        go_wp2_with fail
        refine (C1.out _).mono ?_
        rintro e w' ⟨rfl, rfl⟩
        go_wp2_with fail
        refine (C2.out _).mono ?_
        rintro e w' ⟨rfl, rfl⟩
        go_wp2_with fail
        refine (C3.out _).mono ?_
        rintro e w' ⟨rfl, rfl⟩
        go_wp2_with fail
        refine bodyPost_ret (v := .tuple #[.int .i64 2, .int .i64 ((i + 1 : Nat) : Int)]) (by simp [results, Tryd.results20, go_sem, *]) rfl ?_
        exact ⟨ret_ii HR.out, rfl⟩
      | false =>
        rw [h3, if_neg (by decide)] at hk
        rw [h3] at c3
        have HR := Lib.hid (tkE_no hk)
        have C1 := Lib.hid c1; have C2 := Lib.hid c2; have C3 := Lib.hid c3
        clear c1 c2 c3 hk h1 h2 h3
        go_enter Tryd.func20, Tryd.ntmps20
        go_wp2_with fail
        refine (C1.out _).mono ?_
        rintro e w' ⟨rfl, rfl⟩
        go_wp2_with fail
        refine (C2.out _).mono ?_
        rintro e w' ⟨rfl, rfl⟩
        go_wp2_with fail
        refine (C3.out _).mono ?_
        rintro e w' ⟨rfl, rfl⟩
        go_wp2_with fail
        refine bodyPost_ret (v := .tuple #[.int .i64 0, .int .i64 (-1)]) (by simp [results, Tryd.results20, go_sem, *]) rfl ?_
        exact ⟨ret_ii HR.out, rfl⟩
end Go.Proofs.YtcckifhloabpkaaDoor
