/- The document's words on bytes and tokens. -/
import Derived.Test.YtcckifhloabpkaaDoorAllRat
import Derived.Test.YtcckifhloabpkaaDoorWordNum
namespace Go.Proofs.YtcckifhloabpkaaDoor
open Go.RowKit
set_option linter.unusedSimpArgs false
set_option linter.unusedVariables false
theorem drop_at (s : ByteArray) (k : Nat) (h : k < s.size) : s.data.toList.drop k = s[k] :: s.data.toList.drop (k + 1) := by
  have hl : k < s.data.toList.length := by rw [size_toList]; exact h
  have e := byte_at s k h
  rw [List.drop_eq_getElem_cons hl]
  rw [List.getElem?_eq_getElem hl] at e
  rw [Option.some.inj e]
def GiveQ (w : World) (v : Value) (e : Ending) (w' : World) : Prop := e = .returned v ∧ w' = w
theorem ret_b {a b : Bool} (h : a = b) : Ending.returned (.bool a) = .returned (.bool b) := by rw [h]
theorem ret_n {a b : Nat} (h : a = b) : Ending.returned (.int .i64 (a : Int)) = .returned (.int .i64 (b : Int)) := by rw [h]
set_option maxRecDepth 100000 in
set_option maxHeartbeats 4000000 in
theorem rlletter_any (c : UInt8) (w : World) : Calls Tryd.prog 31 #[.int .u8 (c.toNat : Int)] w (GiveQ w (.bool (Wd.isLet c))) := by
  have HR : Hid (Wd.isLet c = (decide ((97 : Int) ≤ (c.toNat : Int)) && decide ((c.toNat : Int) ≤ 122))) := Lib.hid (by
    unfold Wd.isLet
    rw [show decide (97 ≤ c.toNat) = decide ((97 : Int) ≤ (c.toNat : Int)) from decide_eq_decide.2 (by omega), show decide (c.toNat ≤ 122) = decide ((c.toNat : Int) ≤ 122) from decide_eq_decide.2 (by omega)])
  by_cases h1 : (97 : Int) ≤ (c.toNat : Int)
  · by_cases h2 : (c.toNat : Int) ≤ 122
    · rw [decide_eq_true h1, decide_eq_true h2] at HR
      go_enter Tryd.func31, Tryd.ntmps31
      go_wp2
      go_ret
      exact ⟨ret_b (by rw [HR.out]; rfl), rfl⟩
    · rw [decide_eq_true h1, decide_eq_false h2] at HR
      go_enter Tryd.func31, Tryd.ntmps31
      go_wp2
      go_ret
      exact ⟨ret_b (by rw [HR.out]; simp [h2]), rfl⟩
  · rw [decide_eq_false h1] at HR
    go_enter Tryd.func31, Tryd.ntmps31
    go_wp2
    go_ret
    exact ⟨ret_b (by rw [HR.out]; simp [h1]), rfl⟩
set_option maxRecDepth 100000 in
set_option maxHeartbeats 4000000 in
theorem rldigit_any (c : UInt8) (w : World) : Calls Tryd.prog 33 #[.int .u8 (c.toNat : Int)] w (GiveQ w (.bool (Wd.isDig c))) := by
  have HR : Hid (Wd.isDig c = (decide ((48 : Int) ≤ (c.toNat : Int)) && decide ((c.toNat : Int) ≤ 57))) := Lib.hid (by
    unfold Wd.isDig
    rw [show decide (48 ≤ c.toNat) = decide ((48 : Int) ≤ (c.toNat : Int)) from decide_eq_decide.2 (by omega), show decide (c.toNat ≤ 57) = decide ((c.toNat : Int) ≤ 57) from decide_eq_decide.2 (by omega)])
  by_cases h1 : (48 : Int) ≤ (c.toNat : Int)
  · by_cases h2 : (c.toNat : Int) ≤ 57
    · rw [decide_eq_true h1, decide_eq_true h2] at HR
      go_enter Tryd.func33, Tryd.ntmps33
      go_wp2
      go_ret
      exact ⟨ret_b (by rw [HR.out]; rfl), rfl⟩
    · rw [decide_eq_true h1, decide_eq_false h2] at HR
      go_enter Tryd.func33, Tryd.ntmps33
      go_wp2
      go_ret
      exact ⟨ret_b (by rw [HR.out]; simp [h2]), rfl⟩
  · rw [decide_eq_false h1] at HR
    go_enter Tryd.func33, Tryd.ntmps33
    go_wp2
    go_ret
    exact ⟨ret_b (by rw [HR.out]; simp [h1]), rfl⟩
set_option maxRecDepth 100000 in
set_option maxHeartbeats 4000000 in
theorem rlsign_any (c : UInt8) (w : World) : Calls Tryd.prog 35 #[.int .u8 (c.toNat : Int)] w (GiveQ w (.bool (Wd.isSgn c))) := by
  by_cases h0 : (c.toNat : Int) = 43
  · have HR : Hid (Wd.isSgn c = true) := Lib.hid (by
      have e : c = 43 := UInt8.toNat_inj.1 (by show c.toNat = 43; omega)
      subst e; rfl)
    go_enter Tryd.func35, Tryd.ntmps35
    go_wp2
    go_ret
    exact ⟨ret_b (by rw [HR.out] <;> first | rfl | simp [*]), rfl⟩
  by_cases h1 : (c.toNat : Int) = 45
  · have HR : Hid (Wd.isSgn c = true) := Lib.hid (by
      have e : c = 45 := UInt8.toNat_inj.1 (by show c.toNat = 45; omega)
      subst e; rfl)
    go_enter Tryd.func35, Tryd.ntmps35
    go_wp2
    go_ret
    exact ⟨ret_b (by rw [HR.out] <;> first | rfl | simp [*]), rfl⟩
  by_cases h2 : (c.toNat : Int) = 42
  · have HR : Hid (Wd.isSgn c = true) := Lib.hid (by
      have e : c = 42 := UInt8.toNat_inj.1 (by show c.toNat = 42; omega)
      subst e; rfl)
    go_enter Tryd.func35, Tryd.ntmps35
    go_wp2
    go_ret
    exact ⟨ret_b (by rw [HR.out] <;> first | rfl | simp [*]), rfl⟩
  by_cases h3 : (c.toNat : Int) = 47
  · have HR : Hid (Wd.isSgn c = true) := Lib.hid (by
      have e : c = 47 := UInt8.toNat_inj.1 (by show c.toNat = 47; omega)
      subst e; rfl)
    go_enter Tryd.func35, Tryd.ntmps35
    go_wp2
    go_ret
    exact ⟨ret_b (by rw [HR.out] <;> first | rfl | simp [*]), rfl⟩
  by_cases h4 : (c.toNat : Int) = 40
  · have HR : Hid (Wd.isSgn c = true) := Lib.hid (by
      have e : c = 40 := UInt8.toNat_inj.1 (by show c.toNat = 40; omega)
      subst e; rfl)
    go_enter Tryd.func35, Tryd.ntmps35
    go_wp2
    go_ret
    exact ⟨ret_b (by rw [HR.out] <;> first | rfl | simp [*]), rfl⟩
  by_cases h5 : (c.toNat : Int) = 41
  · have HR : Hid (Wd.isSgn c = true) := Lib.hid (by
      have e : c = 41 := UInt8.toNat_inj.1 (by show c.toNat = 41; omega)
      subst e; rfl)
    go_enter Tryd.func35, Tryd.ntmps35
    go_wp2
    go_ret
    exact ⟨ret_b (by rw [HR.out] <;> first | rfl | simp [*]), rfl⟩
  by_cases h6 : (c.toNat : Int) = 44
  · have HR : Hid (Wd.isSgn c = true) := Lib.hid (by
      have e : c = 44 := UInt8.toNat_inj.1 (by show c.toNat = 44; omega)
      subst e; rfl)
    go_enter Tryd.func35, Tryd.ntmps35
    go_wp2
    go_ret
    exact ⟨ret_b (by rw [HR.out] <;> first | rfl | simp [*]), rfl⟩
  have HR : Hid (Wd.isSgn c = false) := Lib.hid (by
    unfold Wd.isSgn
    have ne : ∀ k : UInt8, ¬ (c.toNat : Int) = (k.toNat : Int) → (c == k) = false := fun k h => beq_false_of_ne fun e => h (by rw [e])
    rw [ne 43 h0, ne 45 h1, ne 42 h2, ne 47 h3, ne 40 h4, ne 41 h5, ne 44 h6]
    rfl)
  go_enter Tryd.func35, Tryd.ntmps35
  go_wp2
  go_ret
  exact ⟨ret_b (by rw [HR.out]; simp [h0, h1, h2, h3, h4, h5, h6]), rfl⟩
set_option maxRecDepth 100000 in
set_option maxHeartbeats 4000000 in
theorem rldigits_any (s : ByteArray) (i : Nat) (w : World) (hi : i ≤ s.size) (hs : s.size ≤ 4611686018427387904) : Calls Tryd.prog 41 #[.string s, .int .i64 (i : Int)] w (GiveQ w (.int .i64 ((i + Wd.run Wd.isDig (s.data.toList.drop i) : Nat) : Int))) := by
  go_enter Tryd.func41, Tryd.ntmps41
  go_wp2
  go_loop [1] (fun v => ∃ k : Nat, k ≤ s.size ∧ v = .int .i64 k ∧ Hid (k + Wd.run Wd.isDig (s.data.toList.drop k) = i + Wd.run Wd.isDig (s.data.toList.drop i))) (fun v => s.size - (intOf v).toNat)
  case atStart => exact ⟨i, hi, rfl, Lib.hid rfl⟩
  case round =>
    obtain ⟨k, hk, rfl, HJ⟩ := hrel
    by_cases hlt : k < s.size
    · have c1 := fun w => rldigit_any s[k] w
      cases hp : Wd.isDig s[k] with
      | true =>
        rw [hp] at c1
        have HE : Hid (Wd.run Wd.isDig (s.data.toList.drop k) = Wd.run Wd.isDig (s.data.toList.drop (k + 1)) + 1) := Lib.hid (by rw [drop_at s k hlt, Wd.run_pos hp])
        have C1 := Lib.hid c1; clear c1 hp
        go_wp2_with fail
        refine (C1.out _).mono ?_
        rintro e w' ⟨rfl, rfl⟩
        go_wp2_with fail
        go_round
        case rel => exact ⟨k + 1, hlt, by go_num, Lib.hid (by have := HJ.out; have := HE.out; omega)⟩
        case measure => simp [intOf]; omega
      | false =>
        rw [hp] at c1
        have HE : Hid (Wd.run Wd.isDig (s.data.toList.drop k) = 0) := Lib.hid (by rw [drop_at s k hlt]; unfold Wd.run; rw [hp]; rfl)
        have C1 := Lib.hid c1; clear c1 hp
        go_wp2_with fail
        refine (C1.out _).mono ?_
        rintro e w' ⟨rfl, rfl⟩
        go_wp2_with fail
        go_ret
        exact ⟨ret_n (by have := HJ.out; have := HE.out; omega), rfl⟩
    · obtain rfl : k = s.size := by omega
      have HE : Hid (Wd.run Wd.isDig (s.data.toList.drop s.size) = 0) := Lib.hid (by rw [List.drop_of_length_le (by rw [size_toList]; exact Nat.le_refl _)]; rfl)
      go_wp2_with fail
      go_ret
      exact ⟨ret_n (by have := HJ.out; have := HE.out; omega), rfl⟩
set_option maxRecDepth 100000 in
set_option maxHeartbeats 4000000 in
theorem rlname_any (s : ByteArray) (i : Nat) (w : World) (hi : i ≤ s.size) (hs : s.size ≤ 4611686018427387904) : Calls Tryd.prog 32 #[.string s, .int .i64 (i : Int)] w (GiveQ w (.int .i64 ((i + Wd.run Wd.isLD (s.data.toList.drop i) : Nat) : Int))) := by
  go_enter Tryd.func32, Tryd.ntmps32
  go_wp2
  go_loop [1] (fun v => ∃ k : Nat, k ≤ s.size ∧ v = .int .i64 k ∧ Hid (k + Wd.run Wd.isLD (s.data.toList.drop k) = i + Wd.run Wd.isLD (s.data.toList.drop i))) (fun v => s.size - (intOf v).toNat)
  case atStart => exact ⟨i, hi, rfl, Lib.hid rfl⟩
  case round =>
    obtain ⟨k, hk, rfl, HJ⟩ := hrel
    by_cases hlt : k < s.size
    · have c1 := fun w => rlletter_any s[k] w
      have c2 := fun w => rldigit_any s[k] w
      cases ha : Wd.isLet s[k] with
      | true =>
        rw [ha] at c1
        have hp : Wd.isLD s[k] = true := by unfold Wd.isLD; rw [ha]; rfl
        have HE : Hid (Wd.run Wd.isLD (s.data.toList.drop k) = Wd.run Wd.isLD (s.data.toList.drop (k + 1)) + 1) := Lib.hid (by rw [drop_at s k hlt, Wd.run_pos hp])
        have C1 := Lib.hid c1; have C2 := Lib.hid c2; clear c1 c2 hp ha
        go_wp2_with fail
        refine (C1.out _).mono ?_
        rintro e w' ⟨rfl, rfl⟩
        go_wp2_with fail
        go_round
        case rel => exact ⟨k + 1, hlt, by go_num, Lib.hid (by have := HJ.out; have := HE.out; omega)⟩
        case measure => simp [intOf]; omega
      | false =>
        cases hb : Wd.isDig s[k] with
        | true =>
          rw [ha] at c1
          rw [hb] at c2
          have hp : Wd.isLD s[k] = true := by unfold Wd.isLD; rw [ha, hb]; rfl
          have HE : Hid (Wd.run Wd.isLD (s.data.toList.drop k) = Wd.run Wd.isLD (s.data.toList.drop (k + 1)) + 1) := Lib.hid (by rw [drop_at s k hlt, Wd.run_pos hp])
          have C1 := Lib.hid c1; have C2 := Lib.hid c2; clear c1 c2 hp ha hb
          go_wp2_with fail
          refine (C1.out _).mono ?_
          rintro e w' ⟨rfl, rfl⟩
          go_wp2_with fail
          refine (C2.out _).mono ?_
          rintro e w' ⟨rfl, rfl⟩
          go_wp2_with fail
          go_round
          case rel => exact ⟨k + 1, hlt, by go_num, Lib.hid (by have := HJ.out; have := HE.out; omega)⟩
          case measure => simp [intOf]; omega
        | false =>
          rw [ha] at c1
          rw [hb] at c2
          have hp : Wd.isLD s[k] = false := by unfold Wd.isLD; rw [ha, hb]; rfl
          have HE : Hid (Wd.run Wd.isLD (s.data.toList.drop k) = 0) := Lib.hid (by rw [drop_at s k hlt]; unfold Wd.run; rw [hp]; rfl)
          have C1 := Lib.hid c1; have C2 := Lib.hid c2; clear c1 c2 hp ha hb
          go_wp2_with fail
          refine (C1.out _).mono ?_
          rintro e w' ⟨rfl, rfl⟩
          go_wp2_with fail
          refine (C2.out _).mono ?_
          rintro e w' ⟨rfl, rfl⟩
          go_wp2_with fail
          go_ret
          exact ⟨ret_n (by have := HJ.out; have := HE.out; omega), rfl⟩
    · obtain rfl : k = s.size := by omega
      have HE : Hid (Wd.run Wd.isLD (s.data.toList.drop s.size) = 0) := Lib.hid (by rw [List.drop_of_length_le (by rw [size_toList]; exact Nat.le_refl _)]; rfl)
      go_wp2_with fail
      go_ret
      exact ⟨ret_n (by have := HJ.out; have := HE.out; omega), rfl⟩
end Go.Proofs.YtcckifhloabpkaaDoor
