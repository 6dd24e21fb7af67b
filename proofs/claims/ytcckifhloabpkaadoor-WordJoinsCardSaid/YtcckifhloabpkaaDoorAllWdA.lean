/- The program's places, which are complex numbers, and its bytes. -/
import Derived.WalkLawsBesides
import Derived.Test.YtcckifhloabpkaaDoorCpxNum
import Derived.Test.YtcckifhloabpkaaDoorWordApi
namespace Go.Proofs.YtcckifhloabpkaaDoor
open Go.RowKit
open Fl (fl)
set_option linter.unusedSimpArgs false
set_option linter.unusedVariables false
/-- A place: its line, and its column. -/
abbrev plV (l c : Nat) : Value := .complex .f64 (fl l) (fl c)
set_option maxRecDepth 100000 in
set_option maxHeartbeats 4000000 in
theorem wline_any (l c : Nat) (w : World) (h : l < 9007199254740992) : Calls Tryd.prog 22 #[plV l c] w (GiveQ w (.int .i64 (l : Int))) := by
  have hc : ∀ w, (convert 54 3 (.float .f64 (fl l))).run Tryd.prog w = .ok (.int .i64 (l : Int)) w := fun w => run_convert_float_int w 54 3 .f64 .i64 (fl l) _ (by rw [Tryd.underlying54]; rfl) Tryd.underlying3 (Fl.int_bits _ h)
  unfold plV
  generalize fl l = a at *
  generalize fl c = b at *
  go_enter Tryd.func22, Tryd.ntmps22
  go_wp2_with (simp only [hc])
  all_goals (go_ret; exact ⟨rfl, rfl⟩)
set_option maxRecDepth 100000 in
set_option maxHeartbeats 4000000 in
theorem wcolumn_any (l c : Nat) (w : World) (h : c < 9007199254740992) : Calls Tryd.prog 23 #[plV l c] w (GiveQ w (.int .i64 (c : Int))) := by
  have hc : ∀ w, (convert 54 3 (.float .f64 (fl c))).run Tryd.prog w = .ok (.int .i64 (c : Int)) w := fun w => run_convert_float_int w 54 3 .f64 .i64 (fl c) _ (by rw [Tryd.underlying54]; rfl) Tryd.underlying3 (Fl.int_bits _ h)
  unfold plV
  generalize fl l = a at *
  generalize fl c = b at *
  go_enter Tryd.func23, Tryd.ntmps23
  go_wp2_with (simp only [hc])
  all_goals (go_ret; exact ⟨rfl, rfl⟩)
set_option maxRecDepth 100000 in
set_option maxHeartbeats 4000000 in
theorem wbehind_any (l c n : Nat) (w : World) (hl : l < 9007199254740992) (h : c + n < 9007199254740992) : Calls Tryd.prog 19 #[plV l c, .int .i64 (n : Int)] w (GiveQ w (plV l (c + n))) := by
  have hc : ∀ w, (convert 3 54 (.int .i64 (n : Int))).run Tryd.prog w = .ok (.float .f64 (fl n)) w := fun w => by
    have k := run_convert_int_float (P := Tryd.prog) w 3 54 .i64 .f64 (n : Int) (by rw [Tryd.underlying3]; rfl) Tryd.underlying54
    rw [Fl.of_int n (by omega)] at k
    exact k
  have hs : ∀ t w, (binOp .add t (.complex .f64 (fl l) (fl c)) (.complex .f64 0 (fl n))).run Tryd.prog w = .ok (.complex .f64 (fl l) (fl (c + n))) w := fun t w => by
    have k := Fl.csum_bits l c 0 n (by omega) h
    rw [Fl.fl_0] at k
    exact run_complex_sum (P := Tryd.prog) w .add (Or.inl rfl) t .f64 _ _ _ _ _ _ k
  unfold plV
  generalize fl (c + n) = d at *
  generalize fl l = a at *
  generalize fl c = b at *
  generalize fl n = e at *
  go_enter Tryd.func19, Tryd.ntmps19
  go_wp2_with (first | simp only [hc] | simp only [hs])
  all_goals (go_ret; exact ⟨rfl, rfl⟩)
set_option maxRecDepth 100000 in
set_option maxHeartbeats 4000000 in
theorem wbelow_any (l c : Nat) (w : World) (h : l + 1 < 9007199254740992) : Calls Tryd.prog 24 #[plV l c] w (GiveQ w (plV (l + 1) 1)) := by
  have hs : ∀ t w, (binOp .add t (.float .f64 (fl l)) (.float .f64 4607182418800017408)).run Tryd.prog w = .ok (.float .f64 (fl (l + 1))) w := fun t w => by
    have k := Fl.sum_bits l 1 h
    rw [Fl.fl_1] at k
    exact run_float_arith (P := Tryd.prog) w .add t .f64 _ _ _ k
  unfold plV
  rw [Fl.fl_1]
  generalize fl (l + 1) = d at *
  generalize fl l = a at *
  generalize fl c = b at *
  go_enter Tryd.func24, Tryd.ntmps24
  go_wp2_with (simp only [hs])
  all_goals (go_ret; exact ⟨rfl, rfl⟩)
set_option maxRecDepth 100000 in
set_option maxHeartbeats 4000000 in
theorem wletter_any (c : UInt8) (w : World) : Calls Tryd.prog 25 #[.int .u8 (c.toNat : Int)] w (GiveQ w (.bool (Wd.isLet c))) := by
  have HR : Hid (Wd.isLet c = (decide ((97 : Int) ≤ (c.toNat : Int)) && decide ((c.toNat : Int) ≤ 122))) := Lib.hid (by
    unfold Wd.isLet
    rw [show decide (97 ≤ c.toNat) = decide ((97 : Int) ≤ (c.toNat : Int)) from decide_eq_decide.2 (by omega), show decide (c.toNat ≤ 122) = decide ((c.toNat : Int) ≤ 122) from decide_eq_decide.2 (by omega)])
  by_cases h1 : (97 : Int) ≤ (c.toNat : Int)
  · by_cases h2 : (c.toNat : Int) ≤ 122
    · rw [decide_eq_true h1, decide_eq_true h2] at HR
      go_enter Tryd.func25, Tryd.ntmps25
      go_wp2
      go_ret
      exact ⟨ret_b (by rw [HR.out]; rfl), rfl⟩
    · rw [decide_eq_true h1, decide_eq_false h2] at HR
      go_enter Tryd.func25, Tryd.ntmps25
      go_wp2
      go_ret
      exact ⟨ret_b (by rw [HR.out]; simp [h2]), rfl⟩
  · rw [decide_eq_false h1] at HR
    go_enter Tryd.func25, Tryd.ntmps25
    go_wp2
    go_ret
    exact ⟨ret_b (by rw [HR.out]; simp [h1]), rfl⟩
set_option maxRecDepth 100000 in
set_option maxHeartbeats 4000000 in
theorem wdigit_any (c : UInt8) (w : World) : Calls Tryd.prog 28 #[.int .u8 (c.toNat : Int)] w (GiveQ w (.bool (Wd.isDig c))) := by
  have HR : Hid (Wd.isDig c = (decide ((48 : Int) ≤ (c.toNat : Int)) && decide ((c.toNat : Int) ≤ 57))) := Lib.hid (by
    unfold Wd.isDig
    rw [show decide (48 ≤ c.toNat) = decide ((48 : Int) ≤ (c.toNat : Int)) from decide_eq_decide.2 (by omega), show decide (c.toNat ≤ 57) = decide ((c.toNat : Int) ≤ 57) from decide_eq_decide.2 (by omega)])
  by_cases h1 : (48 : Int) ≤ (c.toNat : Int)
  · by_cases h2 : (c.toNat : Int) ≤ 57
    · rw [decide_eq_true h1, decide_eq_true h2] at HR
      go_enter Tryd.func28, Tryd.ntmps28
      go_wp2
      go_ret
      exact ⟨ret_b (by rw [HR.out]; rfl), rfl⟩
    · rw [decide_eq_true h1, decide_eq_false h2] at HR
      go_enter Tryd.func28, Tryd.ntmps28
      go_wp2
      go_ret
      exact ⟨ret_b (by rw [HR.out]; simp [h2]), rfl⟩
  · rw [decide_eq_false h1] at HR
    go_enter Tryd.func28, Tryd.ntmps28
    go_wp2
    go_ret
    exact ⟨ret_b (by rw [HR.out]; simp [h1]), rfl⟩
set_option maxRecDepth 100000 in
set_option maxHeartbeats 4000000 in
theorem wnamed_any (c : UInt8) (w : World) : Calls Tryd.prog 27 #[.int .u8 (c.toNat : Int)] w (GiveQ w (.bool (Wd.isLD c))) := by
  have c1 := wletter_any c
  have c2 := wdigit_any c
  unfold Wd.isLD
  generalize Wd.isDig c = d at *
  cases hp : Wd.isLet c with
  | true =>
    rw [hp] at c1
    have C1 := Lib.hid c1; clear c1 c2 hp
    go_enter Tryd.func27, Tryd.ntmps27
    go_wp2_with (first | (go_at_call 25; refine (C1.out _).mono ?_; rintro e w1 ⟨rfl, rfl⟩) | fail)
    go_ret
    exact ⟨rfl, rfl⟩
  | false =>
    rw [hp] at c1
    have C1 := Lib.hid c1; have C2 := Lib.hid c2; clear c1 c2 hp
    go_enter Tryd.func27, Tryd.ntmps27
    go_wp2_with (first | (go_at_call 25; refine (C1.out _).mono ?_; rintro e w1 ⟨rfl, rfl⟩) | (go_at_call 28; refine (C2.out _).mono ?_; rintro e w1 ⟨rfl, rfl⟩) | fail)
    go_ret
    exact ⟨rfl, rfl⟩
/-- A function of the program that tells of a byte. -/
def Tells (f : FuncId) (q : UInt8 → Bool) : Prop := ∀ (c : UInt8) (w : World), Calls Tryd.prog f #[.int .u8 (c.toNat : Int)] w (GiveQ w (.bool (q c)))
set_option maxRecDepth 100000 in
set_option maxHeartbeats 4000000 in
theorem wcount_named (s : ByteArray) (w : World) (hs : s.size ≤ 4611686018427387904) : Calls Tryd.prog 26 #[.string s, .func (.func 27) #[] #[]] w (GiveQ w (.int .i64 ((Wd.run Wd.isLD s.data.toList : Nat) : Int))) := by
  go_enter Tryd.func26, Tryd.ntmps26
  go_wp2
  go_loop [8] (fun v => ∃ k : Nat, k ≤ s.size ∧ v = .int .i64 k ∧ Hid (k + Wd.run Wd.isLD (s.data.toList.drop k) = Wd.run Wd.isLD s.data.toList)) (fun v => s.size - (intOf v).toNat)
  case atStart => exact ⟨0, Nat.zero_le _, rfl, Lib.hid (by rw [List.drop_zero, Nat.zero_add])⟩
  case round =>
    obtain ⟨k, hk, rfl, HJ⟩ := hrel
    by_cases hlt : k < s.size
    · have c1 := fun w => wnamed_any s[k] w
      cases hp : Wd.isLD s[k] with
      | true =>
        rw [hp] at c1
        have HE : Hid (Wd.run Wd.isLD (s.data.toList.drop k) = Wd.run Wd.isLD (s.data.toList.drop (k + 1)) + 1) := Lib.hid (by rw [drop_at s k hlt, Wd.run_pos hp])
        have C1 := Lib.hid c1; clear c1 hp
        go_wp2_with fail
        refine (C1.out _).mono ?_
        rintro e w' ⟨rfl, rfl⟩
        go_wp2_with fail
        go_round
        case rel => exact ⟨k + 1, hlt, by go_num, Lib.hid (by have := HJ.out; have := HE.out; omega)⟩
        case measure => simp [intOf]; omega
      | false =>
        rw [hp] at c1
        have HE : Hid (Wd.run Wd.isLD (s.data.toList.drop k) = 0) := Lib.hid (by rw [drop_at s k hlt]; unfold Wd.run; rw [hp]; rfl)
        have C1 := Lib.hid c1; clear c1 hp
        go_wp2_with fail
        refine (C1.out _).mono ?_
        rintro e w' ⟨rfl, rfl⟩
        go_wp2_with fail
        go_ret
        exact ⟨ret_n (by have := HJ.out; have := HE.out; omega), rfl⟩
    · obtain rfl : k = s.size := by omega
      have HE : Hid (Wd.run Wd.isLD (s.data.toList.drop s.size) = 0) := Lib.hid (by rw [List.drop_of_length_le (by rw [size_toList]; exact Nat.le_refl _)]; rfl)
      go_wp2_with fail
      go_ret
      exact ⟨ret_n (by have := HJ.out; have := HE.out; omega), rfl⟩
set_option maxRecDepth 100000 in
set_option maxHeartbeats 4000000 in
theorem wcount_digit (s : ByteArray) (w : World) (hs : s.size ≤ 4611686018427387904) : Calls Tryd.prog 26 #[.string s, .func (.func 28) #[] #[]] w (GiveQ w (.int .i64 ((Wd.run Wd.isDig s.data.toList : Nat) : Int))) := by
  go_enter Tryd.func26, Tryd.ntmps26
  go_wp2
  go_loop [8] (fun v => ∃ k : Nat, k ≤ s.size ∧ v = .int .i64 k ∧ Hid (k + Wd.run Wd.isDig (s.data.toList.drop k) = Wd.run Wd.isDig s.data.toList)) (fun v => s.size - (intOf v).toNat)
  case atStart => exact ⟨0, Nat.zero_le _, rfl, Lib.hid (by rw [List.drop_zero, Nat.zero_add])⟩
  case round =>
    obtain ⟨k, hk, rfl, HJ⟩ := hrel
    by_cases hlt : k < s.size
    · have c1 := fun w => wdigit_any s[k] w
      cases hp : Wd.isDig s[k] with
      | true =>
        rw [hp] at c1
        have HE : Hid (Wd.run Wd.isDig (s.data.toList.drop k) = Wd.run Wd.isDig (s.data.toList.drop (k + 1)) + 1) := Lib.hid (by rw [drop_at s k hlt, Wd.run_pos hp])
        have C1 := Lib.hid c1; clear c1 hp
        go_wp2_with fail
        refine (C1.out _).mono ?_
        rintro e w' ⟨rfl, rfl⟩
        go_wp2_with fail
        go_round
        case rel => exact ⟨k + 1, hlt, by go_num, Lib.hid (by have := HJ.out; have := HE.out; omega)⟩
        case measure => simp [intOf]; omega
      | false =>
        rw [hp] at c1
        have HE : Hid (Wd.run Wd.isDig (s.data.toList.drop k) = 0) := Lib.hid (by rw [drop_at s k hlt]; unfold Wd.run; rw [hp]; rfl)
        have C1 := Lib.hid c1; clear c1 hp
        go_wp2_with fail
        refine (C1.out _).mono ?_
        rintro e w' ⟨rfl, rfl⟩
        go_wp2_with fail
        go_ret
        exact ⟨ret_n (by have := HJ.out; have := HE.out; omega), rfl⟩
    · obtain rfl : k = s.size := by omega
      have HE : Hid (Wd.run Wd.isDig (s.data.toList.drop s.size) = 0) := Lib.hid (by rw [List.drop_of_length_le (by rw [size_toList]; exact Nat.le_refl _)]; rfl)
      go_wp2_with fail
      go_ret
      exact ⟨ret_n (by have := HJ.out; have := HE.out; omega), rfl⟩
end Go.Proofs.YtcckifhloabpkaaDoor
