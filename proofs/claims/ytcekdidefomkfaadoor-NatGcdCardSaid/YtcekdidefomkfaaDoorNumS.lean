/- Plain texts of digits, and the numbers that they are. Own work; no program text. -/
namespace Go.Proofs.YtcekdidefomkfaaDoor

def isDig (c : UInt8) : Bool := decide (48 ≤ c.toNat) && decide (c.toNat ≤ 57)
/-- Is the text a natural: digits, one at least, 0 ahead only of itself? -/
def isNat (l : List UInt8) : Bool := !l.isEmpty && !(l.head? == some 48 && decide (1 < l.length)) && l.all isDig
/-- The number that digits are. -/
def valS (l : List UInt8) : Nat := l.foldl (fun n c => 10 * n + (c.toNat - 48)) 0
theorem valS_snoc (l : List UInt8) (c : UInt8) : valS (l ++ [c]) = 10 * valS l + (c.toNat - 48) := by simp [valS]
theorem valS_append (l r : List UInt8) : valS (l ++ r) = valS l * 10 ^ r.length + valS r := by
  obtain ⟨n, hn⟩ : ∃ n, r.length = n := ⟨_, rfl⟩
  induction n generalizing r with
  | zero => rw [List.length_eq_zero_iff.1 hn]; simp [valS]
  | succ n ih =>
    obtain ⟨ini, last, rfl⟩ : ∃ ini last, r = ini ++ [last] := ⟨r.dropLast, r.getLast (by intro e; rw [e] at hn; simp at hn), (List.dropLast_concat_getLast _).symm⟩
    have hi : ini.length = n := by simpa using hn
    rw [← List.append_assoc, valS_snoc, valS_snoc, ih ini hi, List.length_append, List.length_singleton, Nat.pow_succ, Nat.mul_add]
    have : 10 * (valS l * 10 ^ ini.length) = valS l * (10 ^ ini.length * 10) := by rw [← Nat.mul_assoc, Nat.mul_comm 10, Nat.mul_assoc, Nat.mul_comm 10]
    omega
theorem valS_lt {l : List UInt8} (h : l.all isDig = true) : valS l < 10 ^ l.length := by
  obtain ⟨n, hn⟩ : ∃ n, l.length = n := ⟨_, rfl⟩
  induction n generalizing l with
  | zero => rw [List.length_eq_zero_iff.1 hn]; decide
  | succ n ih =>
    obtain ⟨ini, last, rfl⟩ : ∃ ini last, l = ini ++ [last] := ⟨l.dropLast, l.getLast (by intro e; rw [e] at hn; simp at hn), (List.dropLast_concat_getLast _).symm⟩
    rw [List.all_append, Bool.and_eq_true] at h
    have h1 := ih h.1 (by simpa using hn)
    have h2 : isDig last = true := by simpa using h.2
    unfold isDig at h2
    simp only [Bool.and_eq_true, decide_eq_true_eq] at h2
    rw [valS_snoc, List.length_append, List.length_singleton, Nat.pow_succ]
    omega

/-- The digits of a number. -/
def digN (n : Nat) : UInt8 := UInt8.ofNat (48 + n % 10)
def dig (n : Nat) : List UInt8 := if _h : n < 10 then [digN n] else dig (n / 10) ++ [digN n]
termination_by n
decreasing_by omega
theorem digN_toNat (n : Nat) : (digN n).toNat = 48 + n % 10 := by
  unfold digN
  rw [UInt8.toNat_ofNat']
  omega
theorem dig_small {n : Nat} (h : n < 10) : dig n = [digN n] := by rw [dig]; simp [h]
theorem dig_big {n : Nat} (h : ¬ n < 10) : dig n = dig (n / 10) ++ [digN n] := by rw [dig]; simp [h]
theorem isDig_digN (n : Nat) : isDig (digN n) = true := by
  unfold isDig
  rw [digN_toNat]
  simp only [Bool.and_eq_true, decide_eq_true_eq]
  omega
theorem dig_ne (n : Nat) : dig n ≠ [] := by
  by_cases h : n < 10
  · rw [dig_small h]; simp
  · rw [dig_big h]; simp
theorem dig_all (n : Nat) : (dig n).all isDig = true := by
  induction n using Nat.strongRecOn with
  | _ n ih =>
    by_cases h : n < 10
    · rw [dig_small h]; simp [isDig_digN]
    · rw [dig_big h, List.all_append, ih (n / 10) (by omega)]; simp [isDig_digN]
theorem valS_dig (n : Nat) : valS (dig n) = n := by
  induction n using Nat.strongRecOn with
  | _ n ih =>
    by_cases h : n < 10
    · rw [dig_small h]
      show 10 * 0 + ((digN n).toNat - 48) = n
      rw [digN_toNat]
      omega
    · rw [dig_big h, valS_snoc, ih (n / 10) (by omega), digN_toNat]
      omega
theorem dig_head {n : Nat} (h : 0 < n) : (dig n).head? ≠ some 48 := by
  induction n using Nat.strongRecOn with
  | _ n ih =>
    by_cases h10 : n < 10
    · rw [dig_small h10]
      intro e
      have e1 : digN n = 48 := by simpa using e
      have := congrArg UInt8.toNat e1
      rw [digN_toNat] at this
      have h48 : (48 : UInt8).toNat = 48 := rfl
      omega
    · rw [dig_big h10]
      have := ih (n / 10) (by omega) (by omega)
      rw [List.head?_append]
      cases hd : (dig (n / 10)).head? with
      | none => exact absurd (List.head?_eq_none_iff.1 hd) (dig_ne _)
      | some c => rw [hd] at this; simpa using this
theorem isNat_dig (n : Nat) : isNat (dig n) = true := by
  unfold isNat
  rw [dig_all, Bool.and_true, Bool.and_eq_true]
  refine ⟨by simp [dig_ne], ?_⟩
  rcases Nat.eq_zero_or_pos n with rfl | h
  · rw [dig_small (by omega)]; simp
  · have := dig_head h
    simp [this]
/-- Digits without a 0 ahead are those of their number. -/
theorem dig_valS {l : List UInt8} (h : isNat l = true) : dig (valS l) = l := by
  obtain ⟨n, hn⟩ : ∃ n, l.length = n := ⟨_, rfl⟩
  induction n generalizing l with
  | zero => rw [List.length_eq_zero_iff.1 hn] at h; cases h
  | succ n ih =>
    obtain ⟨ini, last, rfl⟩ : ∃ ini last, l = ini ++ [last] := ⟨l.dropLast, l.getLast (by intro e; rw [e] at hn; simp at hn), (List.dropLast_concat_getLast _).symm⟩
    have hi : ini.length = n := by simpa using hn
    unfold isNat at h
    simp only [Bool.and_eq_true, List.all_append] at h
    obtain ⟨⟨_, h2⟩, h3, h4⟩ := h
    have h5 : isDig last = true := by simpa using h4
    have h6 := h5
    unfold isDig at h6
    simp only [Bool.and_eq_true, decide_eq_true_eq] at h6
    have hdl : digN (10 * valS ini + (last.toNat - 48)) = last := by
      apply UInt8.toNat_inj.1
      rw [digN_toNat]
      omega
    rw [valS_snoc]
    cases ini with
    | nil =>
      have hs : 10 * valS [] + (last.toNat - 48) < 10 := by show 10 * 0 + _ < 10; omega
      rw [dig_small hs, hdl]; rfl
    | cons c r =>
      have hnat : isNat (c :: r) = true := by
        unfold isNat
        simp only [h3, Bool.and_true, Bool.and_eq_true]
        refine ⟨by simp, ?_⟩
        have hc48 : c ≠ 48 := by intro e; simp [e] at h2
        simp [hc48]
      have hdi := ih hnat hi
      have hpos : 0 < valS (c :: r) := by
        rcases Nat.eq_zero_or_pos (valS (c :: r)) with h0 | h0
        · exfalso
          rw [h0, dig_small (by omega)] at hdi
          have hc : c = 48 := by
            have := (List.cons.inj hdi).1
            rw [← this]; rfl
          simp [hc] at h2
        · exact h0
      rw [dig_big (by omega), hdl, show (10 * valS (c :: r) + (last.toNat - 48)) / 10 = valS (c :: r) from by omega, hdi]
end Go.Proofs.YtcekdidefomkfaaDoor
