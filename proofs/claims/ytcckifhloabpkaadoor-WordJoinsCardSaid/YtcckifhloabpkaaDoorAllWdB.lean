/- The program's numbers, first tokens, blanks and lines. -/
import Derived.Test.YtcckifhloabpkaaDoorAllWdA
namespace Go.Proofs.YtcckifhloabpkaaDoor
open Go.RowKit
open Fl (fl)
set_option linter.unusedSimpArgs false
set_option linter.unusedVariables false
theorem cut_rest (s : ByteArray) (i : Nat) : s.extract i s.size = ⟨(s.data.toList.drop i).toArray⟩ := by
  refine bytes_eq ?_
  rw [Lib.extract_data]
  show _ = s.data.toList.drop i
  rw [← size_toList]
  first
    | rfl
    | (rw [List.take_length])
    | (rw [List.take_of_length_le (by rw [List.length_drop]; exact Nat.le_refl _)])
    | (rw [List.take_length, List.drop_drop])
theorem pre_no {u : List UInt8} (h : ∀ r, u ≠ 46 :: r) : Lib.hasPrefix u [46] = false := by
  match u with
  | [] => rfl
  | x :: r =>
    have hx : (46 : UInt8) ≠ x := fun e => h r (by rw [← e])
    show ((46 : UInt8) == x && true) = false
    rw [beq_false_of_ne hx]; rfl
theorem pre_yes (r : List UInt8) : Lib.hasPrefix (46 :: r) [46] = true := by
  show ((46 : UInt8) == 46 && true) = true
  rfl
theorem dot_other {u : List UInt8} (h : ∀ r, u ≠ 46 :: r) : Wd.dotD u = false := by
  match u with
  | [] => rfl
  | x :: r => exact Wd.dot_no (fun e => h r (by rw [e])) r
theorem dot_run (r : List UInt8) : Wd.dotD (46 :: r) = !decide (Wd.run Wd.isDig r = 0) := by
  match r with
  | [] => rfl
  | d :: t =>
    show Wd.isDig d = _
    cases e : Wd.isDig d with
    | true => rw [Wd.run_pos e, decide_eq_false (by omega)]; rfl
    | false =>
      have : Wd.run Wd.isDig (d :: t) = 0 := by unfold Wd.run; rw [e]; rfl
      rw [this]; rfl
set_option maxRecDepth 100000 in
set_option maxHeartbeats 4000000 in
theorem wnumber_any (s : ByteArray) (w : World) (hs : s.size ≤ 4000000000000000000) : Calls Tryd.prog 29 #[.string s] w (GiveQ w (.int .i64 ((Wd.numL s.data.toList : Nat) : Int))) := by
  have c0 := fun w => wcount_digit s w (by omega)
  have hle := Wd.run_le Wd.isDig s.data.toList
  have hn : Wd.numL s.data.toList = if Wd.dotD (s.data.toList.drop (Wd.run Wd.isDig s.data.toList)) then Wd.run Wd.isDig s.data.toList + 1 + Wd.run Wd.isDig (s.data.toList.drop (Wd.run Wd.isDig s.data.toList + 1)) else Wd.run Wd.isDig s.data.toList := rfl
  rw [size_toList] at hle
  have hx := cut_rest s (Wd.run Wd.isDig s.data.toList)
  have hd := List.drop_drop (i := 1) (j := Wd.run Wd.isDig s.data.toList) (l := s.data.toList)
  rw [← hd] at hn
  generalize Wd.numL s.data.toList = m at *
  have hu : (s.data.toList.drop (Wd.run Wd.isDig s.data.toList)).length ≤ s.size := by rw [List.length_drop, size_toList]; omega
  generalize s.data.toList.drop (Wd.run Wd.isDig s.data.toList) = u at *
  generalize Wd.run Wd.isDig s.data.toList = a at *
  clear hd
  have c1 := fun w => Tryd.strings_CutPrefix ⟨u.toArray⟩ ⟨#[46]⟩ w
  have hs0 : ¬ ((a : Nat) : Int) < 0 := by omega
  by_cases hp : ∃ r, u = 46 :: r
  · obtain ⟨r, rfl⟩ := hp
    have e1 : Lib.hasPrefix (⟨(46 :: r : List UInt8).toArray⟩ : ByteArray).data.toList (⟨#[46]⟩ : ByteArray).data.toList = true := pre_yes r
    have e2 : Lib.trimPrefix (⟨(46 :: r : List UInt8).toArray⟩ : ByteArray).data.toList (⟨#[46]⟩ : ByteArray).data.toList = r := by
      unfold Lib.trimPrefix
      rw [e1, if_pos rfl]; rfl
    rw [e1, e2] at c1
    rw [List.drop_one, List.tail_cons, dot_run] at hn
    have hr : (⟨r.toArray⟩ : ByteArray).size = r.length := by show r.toArray.size = _; simp
    have c2 := fun w => wcount_digit ⟨r.toArray⟩ w (by rw [hr]; rw [List.length_cons] at hu; omega)
    have hrl := Wd.run_le Wd.isDig r
    rw [List.length_cons] at hu
    have c2 : ∀ w, Calls Tryd.prog 26 #[.string ⟨r.toArray⟩, .func (.func 28) #[] #[]] w (GiveQ w (.int .i64 ((Wd.run Wd.isDig r : Nat) : Int))) := c2
    generalize Wd.run Wd.isDig r = b at *
    have C0 := Lib.hid c0; have C1 := Lib.hid c1; have C2 := Lib.hid c2
    clear c0 c1 c2 hr e1 e2
    by_cases hb : b = 0
    · subst hb
      have HN : Hid (m = a) := Lib.hid hn
      clear hn
      go_enter Tryd.func29, Tryd.ntmps29
      go_wp2_with fail
      refine (C0.out _).mono ?_
      rintro e w1 ⟨rfl, rfl⟩
      go_wp2_with fail
      refine (C1.out _).mono ?_
      rintro e w1 ⟨rfl, rfl⟩
      go_wp2_with fail
      refine (C2.out _).mono ?_
      rintro e w1 ⟨rfl, rfl⟩
      go_wp2_with fail
      go_ret
      exact ⟨ret_n HN.out.symm, rfl⟩
    · have HN : Hid (m = a + 1 + b) := Lib.hid (by rw [hn, decide_eq_false hb]; rfl)
      have hb' : ((b : Int) == 0) = false := beq_false_of_ne (by omega)
      clear hn
      go_enter Tryd.func29, Tryd.ntmps29
      go_wp2_with fail
      refine (C0.out _).mono ?_
      rintro e w1 ⟨rfl, rfl⟩
      go_wp2_with fail
      refine (C1.out _).mono ?_
      rintro e w1 ⟨rfl, rfl⟩
      go_wp2_with fail
      refine (C2.out _).mono ?_
      rintro e w1 ⟨rfl, rfl⟩
      go_wp2_with fail
      refine (C2.out _).mono ?_
      rintro e w1 ⟨rfl, rfl⟩
      go_wp2_with fail
      go_ret
      exact ⟨by rw [HN.out]; try simp, rfl⟩
  · have hp : ∀ r, u ≠ 46 :: r := fun r e => hp ⟨r, e⟩
    have e1 : Lib.hasPrefix (⟨u.toArray⟩ : ByteArray).data.toList (⟨#[46]⟩ : ByteArray).data.toList = false := pre_no hp
    rw [e1] at c1
    rw [dot_other hp] at hn
    have HN : Hid (m = a) := Lib.hid hn
    have C0 := Lib.hid c0; have C1 := Lib.hid c1
    clear c0 c1 hn e1 hp
    go_enter Tryd.func29, Tryd.ntmps29
    go_wp2_with fail
    refine (C0.out _).mono ?_
    rintro e w1 ⟨rfl, rfl⟩
    go_wp2_with fail
    refine (C1.out _).mono ?_
    rintro e w1 ⟨rfl, rfl⟩
    go_wp2_with fail
    go_ret
    exact ⟨ret_n HN.out.symm, rfl⟩
theorem sgn_at (c : UInt8) : decide (0 ≤ Lib.indexByte [43, 45, 42, 47, 40, 41, 44] c) = Wd.isSgn c := by
  have key : ∀ n : Fin 256, decide (0 ≤ Lib.indexByte [43, 45, 42, 47, 40, 41, 44] (UInt8.ofFin n)) = Wd.isSgn (UInt8.ofFin n) := by decide +kernel
  exact key c.toFin
/-- The kind and the size of the first token, however long. -/
def fst : List UInt8 → Nat × Nat
  | [] => (0, 0)
  | x :: r => if Wd.isLet x then (0, Wd.run Wd.isLD (x :: r)) else if Wd.isDig x then (1, Wd.numL (x :: r)) else if Wd.isSgn x then (2, 1) else (0, 0)
set_option maxRecDepth 100000 in
set_option maxHeartbeats 4000000 in
theorem wfirst_any (s : ByteArray) (w : World) (h0 : 0 < s.size) (hs : s.size ≤ 4000000000000000000) : Calls Tryd.prog 17 #[.string s] w (GiveQ w (.tuple #[.int .i64 ((fst s.data.toList).1 : Int), .int .i64 ((fst s.data.toList).2 : Int)])) := by
  have hf : fst s.data.toList = if Wd.isLet s[0] then (0, Wd.run Wd.isLD s.data.toList) else if Wd.isDig s[0] then (1, Wd.numL s.data.toList) else if Wd.isSgn s[0] then (2, 1) else (0, 0) := by
    have e := drop_at s 0 h0
    rw [List.drop_zero] at e
    rw [e]; rfl
  rw [hf]
  clear hf
  have c1 := fun w => wletter_any s[0] w
  have c2 := fun w => wdigit_any s[0] w
  have c3 := fun w => wcount_named s w (by omega)
  have c4 := fun w => wnumber_any s w hs
  have c5 := fun w => Tryd.strings_IndexByte ⟨#[43, 45, 42, 47, 40, 41, 44]⟩ (s[0].toNat : Int) w
  have h5 := sgn_at s[0]
  have e5 : ((s[0].toNat : Int)).toNat.toUInt8 = s[0] := by simp
  rw [e5] at c5
  have c5 : ∀ w, Calls Tryd.prog 30 #[.string ⟨#[43, 45, 42, 47, 40, 41, 44]⟩, .int .u8 (s[0].toNat : Int)] w fun e w' => e = .returned (.int .i64 (Lib.indexByte [43, 45, 42, 47, 40, 41, 44] s[0])) ∧ w' = w := c5
  generalize Lib.indexByte [43, 45, 42, 47, 40, 41, 44] s[0] = ix at *
  generalize Wd.run Wd.isLD s.data.toList = a at *
  generalize Wd.numL s.data.toList = m at *
  have C3 := Lib.hid c3; have C4 := Lib.hid c4; have C5 := Lib.hid c5
  clear e5 c3 c4 c5
  cases e1 : Wd.isLet s[0] with
  | true =>
    rw [e1] at c1
    have C1 := Lib.hid c1
    clear c1 c2 e1 h5
    go_enter Tryd.func17, Tryd.ntmps17
    go_wp2_with fail
    refine (C1.out _).mono ?_
    rintro e w1 ⟨rfl, rfl⟩
    go_wp2_with fail
    refine (C3.out _).mono ?_
    rintro e w1 ⟨rfl, rfl⟩
    go_wp2_with fail
    go_ret2
    exact ⟨rfl, rfl⟩
  | false =>
    cases e2 : Wd.isDig s[0] with
    | true =>
      rw [e1] at c1
      rw [e2] at c2
      have C1 := Lib.hid c1; have C2 := Lib.hid c2
      clear c1 c2 e1 e2 h5
      go_enter Tryd.func17, Tryd.ntmps17
      go_wp2_with fail
      refine (C1.out _).mono ?_
      rintro e w1 ⟨rfl, rfl⟩
      go_wp2_with fail
      refine (C2.out _).mono ?_
      rintro e w1 ⟨rfl, rfl⟩
      go_wp2_with fail
      refine (C4.out _).mono ?_
      rintro e w1 ⟨rfl, rfl⟩
      go_wp2_with fail
      go_ret2
      exact ⟨rfl, rfl⟩
    | false =>
      rw [e1] at c1
      rw [e2] at c2
      have C1 := Lib.hid c1; have C2 := Lib.hid c2
      clear c1 c2 e1 e2
      cases e3 : Wd.isSgn s[0] with
      | true =>
        rw [e3] at h5
        have hi := of_decide_eq_true h5
        clear h5 e3
        go_enter Tryd.func17, Tryd.ntmps17
        go_wp2_with fail
        refine (C1.out _).mono ?_
        rintro e w1 ⟨rfl, rfl⟩
        go_wp2_with fail
        refine (C2.out _).mono ?_
        rintro e w1 ⟨rfl, rfl⟩
        go_wp2_with fail
        refine (C5.out _).mono ?_
        rintro e w1 ⟨rfl, rfl⟩
        go_wp2_with fail
        go_ret2
        exact ⟨rfl, rfl⟩
      | false =>
        rw [e3] at h5
        have hi := of_decide_eq_false h5
        clear h5 e3
        go_enter Tryd.func17, Tryd.ntmps17
        go_wp2_with fail
        refine (C1.out _).mono ?_
        rintro e w1 ⟨rfl, rfl⟩
        go_wp2_with fail
        refine (C2.out _).mono ?_
        rintro e w1 ⟨rfl, rfl⟩
        go_wp2_with fail
        refine (C5.out _).mono ?_
        rintro e w1 ⟨rfl, rfl⟩
        go_wp2_with fail
        go_ret2
        exact ⟨rfl, rfl⟩
/-- Past blanks and lines: what is left, and where it stands. -/
def skp : List UInt8 → Nat → Nat → List UInt8 × Nat × Nat
  | [], l, c => ([], l, c)
  | x :: r, l, c => if x = 32 then skp r l (c + 1) else if x = 10 then skp r (l + 1) 1 else (x :: r, l, c)
theorem skp_lex : ∀ (t : List UInt8) (l c : Nat), Wd.lexAt t l c = Wd.lexAt (skp t l c).1 (skp t l c).2.1 (skp t l c).2.2
  | [], l, c => rfl
  | x :: r, l, c => by
    unfold skp
    split
    · rename_i e; subst e; rw [Wd.lex_blank]; exact skp_lex r l (c + 1)
    · split
      · rename_i e; subst e; rw [Wd.lex_line]; exact skp_lex r (l + 1) 1
      · rfl
theorem skp_fit : ∀ (t : List UInt8) (l c M : Nat), l + t.length ≤ M → c + t.length ≤ M → (skp t l c).2.1 + (skp t l c).1.length ≤ M ∧ (skp t l c).2.2 + (skp t l c).1.length ≤ M ∧ (skp t l c).1.length ≤ t.length
  | [], l, c, M, h1, h2 => ⟨h1, h2, Nat.le_refl _⟩
  | x :: r, l, c, M, h1, h2 => by
    rw [List.length_cons] at h1 h2
    unfold skp
    split
    · obtain ⟨a, b, d⟩ := skp_fit r l (c + 1) M (by omega) (by omega)
      exact ⟨a, b, by rw [List.length_cons]; omega⟩
    · split
      · obtain ⟨a, b, d⟩ := skp_fit r (l + 1) 1 M (by omega) (by omega)
        exact ⟨a, b, by rw [List.length_cons]; omega⟩
      · exact ⟨by rw [List.length_cons]; exact h1, by rw [List.length_cons]; exact h2, Nat.le_refl _⟩
theorem skp_head : ∀ (t : List UInt8) (l c : Nat), (skp t l c).1 = [] ∨ ∃ x r, (skp t l c).1 = x :: r ∧ x ≠ 32 ∧ x ≠ 10
  | [], l, c => .inl rfl
  | x :: r, l, c => by
    unfold skp
    split
    · exact skp_head r l (c + 1)
    · split
      · exact skp_head r (l + 1) 1
      · rename_i h1 h2; exact .inr ⟨x, r, rfl, h1, h2⟩
def skV (r : List UInt8 × Nat × Nat) : Value := .tuple #[.string ⟨r.1.toArray⟩, plV r.2.1 r.2.2]
set_option maxRecDepth 100000 in
set_option maxHeartbeats 4000000 in
theorem wskip_any (s : ByteArray) (l c : Nat) (w : World) (h1 : l + s.size ≤ 20001) (h2 : c + s.size ≤ 20001) : Calls Tryd.prog 16 #[.string s, plV l c] w (GiveQ w (skV (skp s.data.toList l c))) := by
  go_enter Tryd.func16, Tryd.ntmps16
  go_wp2
  go_loop [1, 9] (fun pv v => ∃ k L C : Nat, k ≤ s.size ∧ v = .int .i64 k ∧ pv = plV L C ∧ L + (s.size - k) ≤ 20001 ∧ C + (s.size - k) ≤ 20001 ∧ Hid (skp (s.data.toList.drop k) L C = skp s.data.toList l c)) (fun _ v => s.size - (intOf v).toNat)
  case atStart => exact ⟨0, l, c, Nat.zero_le _, rfl, rfl, by omega, by omega, Lib.hid (by rw [List.drop_zero])⟩
  case round =>
    obtain ⟨k, L, C, hk, rfl, rfl, hL, hC, HJ⟩ := hrel
    by_cases hlt : k < s.size
    · have hs0 : ¬ ((k : Nat) : Int) < 0 := by omega
      by_cases h32 : (s[k].toNat : Int) = 32
      · have cb := fun w => wbehind_any L C 1 w (by omega) (by omega)
        have HE : Hid (skp (s.data.toList.drop (k + 1)) L (C + 1) = skp s.data.toList l c) := Lib.hid (by
          rw [← HJ.out, drop_at s k hlt]
          have e : s[k] = 32 := UInt8.toNat_inj.1 (by show s[k].toNat = 32; omega)
          rw [e]; rfl)
        have CB := Lib.hid cb; clear cb HJ
        have hf : fl L = fl L := rfl
        go_wp2_with fail
        refine (CB.out _).mono ?_
        rintro e w' ⟨rfl, rfl⟩
        go_wp2_with fail
        go_round
        case rel => exact ⟨k + 1, L, C + 1, hlt, by go_num, rfl, by omega, by omega, HE⟩
        case measure => simp [intOf]; omega
      · have e32 : ((s[k].toNat : Int) == 32) = false := beq_false_of_ne h32
        by_cases h10 : (s[k].toNat : Int) = 10
        · have cb := fun w => wbelow_any L C w (by omega)
          have HE : Hid (skp (s.data.toList.drop (k + 1)) (L + 1) 1 = skp s.data.toList l c) := Lib.hid (by
            rw [← HJ.out, drop_at s k hlt]
            have e : s[k] = 10 := UInt8.toNat_inj.1 (by show s[k].toNat = 10; omega)
            rw [e]; rfl)
          have CB := Lib.hid cb; clear cb HJ
          go_wp2_with fail
          refine (CB.out _).mono ?_
          rintro e w' ⟨rfl, rfl⟩
          go_wp2_with fail
          go_round
          case rel => exact ⟨k + 1, L + 1, 1, hlt, by go_num, rfl, by omega, by omega, HE⟩
          case measure => simp [intOf]; omega
        · have e10 : ((s[k].toNat : Int) == 10) = false := beq_false_of_ne h10
          have HE : Hid (skp s.data.toList l c = (s.data.toList.drop k, L, C)) := Lib.hid (by
            rw [← HJ.out, drop_at s k hlt]
            unfold skp
            rw [if_neg (fun e => h32 (by rw [e]; rfl)), if_neg (fun e => h10 (by rw [e]; rfl))])
          have HX := Lib.hid (cut_rest s k)
          clear HJ
          go_wp2_with fail
          go_ret2
          refine ⟨?_, rfl⟩
          rw [HE.out, HX.out]
          rfl
    · obtain rfl : k = s.size := by omega
      have HE : Hid (skp s.data.toList l c = ([], L, C)) := Lib.hid (by
        rw [← HJ.out, List.drop_of_length_le (by rw [size_toList]; exact Nat.le_refl _)]; rfl)
      clear HJ
      go_wp2_with fail
      go_ret2
      refine ⟨?_, rfl⟩
      rw [HE.out]
      rfl
set_option maxRecDepth 100000 in
set_option maxHeartbeats 4000000 in
theorem wwrong_any (l c : Nat) (w : World) (hl : l < 9007199254740992) (hc : c < 9007199254740992) : Calls Tryd.prog 15 #[plV l c] w (GiveQ w (.tuple #[.slice none 0 0, .int .i64 90, .int .i64 (l : Int), .int .i64 (c : Int)])) := by
  have C1 := Lib.hid (fun w => wline_any l c w hl)
  have C2 := Lib.hid (fun w => wcolumn_any l c w hc)
  go_enter Tryd.func15, Tryd.ntmps15
  go_wp2_with fail
  refine (C1.out _).mono ?_
  rintro e w1 ⟨rfl, rfl⟩
  go_wp2_with fail
  refine (C2.out _).mono ?_
  rintro e w1 ⟨rfl, rfl⟩
  go_wp2_with fail
  refine bodyPost_ret (v := .tuple #[.slice none 0 0, .int .i64 90, .int .i64 (l : Int), .int .i64 (c : Int)]) (by simp [results, Tryd.results15, go_sem, *]) rfl ⟨rfl, rfl⟩
def GiveA (w : World) (v : Value) (e : Ending) (w' : World) : Prop := e = .returned v ∧ Below w.heap.size w w'
set_option maxRecDepth 100000 in
set_option maxHeartbeats 4000000 in
theorem wtoken_any (kd l c : Nat) (t : ByteArray) (w : World) (hl : l < 9007199254740992) (hc : c < 9007199254740992) : Calls Tryd.prog 18 #[.int .i64 (kd : Int), .string t, plV l c] w (GiveA w (.agg #[.int .i64 (kd : Int), .string t, .int .i64 (l : Int), .int .i64 (c : Int)])) := by
  have C1 := Lib.hid (fun w => wline_any l c w hl)
  have C2 := Lib.hid (fun w => wcolumn_any l c w hc)
  have b0 := Below.refl w.heap.size w
  go_enter Tryd.func18, Tryd.ntmps18
  go_wp2_with fail
  refine (C1.out _).mono ?_
  rintro e w1 ⟨rfl, rfl⟩
  go_wp2_with fail
  refine (C2.out _).mono ?_
  rintro e w1 ⟨rfl, rfl⟩
  go_wp2_with fail
  refine bodyPost_ret (v := .agg #[.int .i64 (kd : Int), .string t, .int .i64 (l : Int), .int .i64 (c : Int)]) (by simp [results, Tryd.results18, go_sem, *]) rfl ⟨rfl, ?_⟩
  exact Below.alloc b0 (Nat.le_refl _) _
end Go.Proofs.YtcckifhloabpkaaDoor
